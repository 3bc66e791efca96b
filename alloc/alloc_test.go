package alloc_test

import (
	"bytes"
	"slices"
	"testing"

	"skerry/alloc"
	"skerry/api"
	"skerry/group"
	"skerry/plan"
)

// TestExample: P12.1 to P12.4, the chapter's example.
func TestExample(t *testing.T) {
	p := planned(t, 64, 100, 10, 8)
	w := raw(t, p, 0x35, 8)
	o := w.begin()
	want(t, "Format", alloc.Format(o, p), api.OK)
	w.wantBlock(o, 17)
	w.wantBlock(o, 18)
	w.wantInode(o, 2)
	w.wantFree(o, 81, 7)
	want(t, "FreeBlock", w.a.FreeBlock(o, 17), api.OK)
	w.wantFree(o, 81, 7)
	w.wantBlock(o, 19)
	w.wantFree(o, 80, 7)
	w.end(o)
	w.commit()
	o = w.begin()
	w.wantFree(o, 81, 7)
	w.wantBlock(o, 17)
	w.wantFree(o, 80, 7)
}

// TestNew: P12.1, with R2 and R3: a nil group is ErrArg, ahead of a plan that is not sound; nothing is read or written.
func TestNew(t *testing.T) {
	for _, p := range plans(t)[:6] {
		w := raw(t, p, 0, 2)
		s := w.snapped()
		for _, q := range append(unsound(p), p) {
			if a, e := alloc.New(nil, q); a != nil || e != api.ErrArg {
				t.Errorf("New of a nil group, %v: %v, %d", q, a, e)
			}
			a, e := alloc.New(w.g, q)
			if wanted := plan.Check(q); (a != nil) != (wanted == api.OK) || e != wanted {
				t.Errorf("New of %v: %v, %d, should be %d", q, a, e, wanted)
			}
		}
		w.wantSame("New", s)
		// A dead device does not matter yet, nor does an operation that is open.
		die(t, w.d)
		w.begin()
		if a, e := alloc.New(w.g, p); a == nil || e != api.OK {
			t.Error("New on a dead device:", a, e)
		}
	}
}

// TestFormat: P12.1, both bitmaps are written whole, whatever they held: in their places, as parts of the group, or in the operation itself; nothing else is.
func TestFormat(t *testing.T) {
	for _, p := range plans(t) {
		for _, fill := range []byte{0, 0xff, 0x5a} {
			w := raw(t, p, fill, 3)
			o := w.begin()
			if fill == 0x5a {
				want(t, "Write", o.Write(p.Table-1, bytes.Repeat([]byte{0x77}, p.Block)), api.OK)
			}
			want(t, "Format", alloc.Format(o, p), api.OK)
			w.wantBits(o, []int{0, 1}, upTo(0, p.Data))
			w.wantFree(o, p.Blocks-p.Data, p.Inodes-2)
			w.end(o)
			if got := w.g.Blocks(); !slices.Equal(got, upTo(p.IBits, p.Table)) {
				t.Errorf("%v: Format wrote %v, should write %v", p, got, upTo(p.IBits, p.Table))
			}
			w.settle()
			for b := p.Table; b < p.Blocks; b++ {
				if data, _ := w.d.Read(b); !bytes.Equal(data, bytes.Repeat([]byte{fill}, p.Block)) {
					t.Fatalf("%v: Format changed block %d", p, b)
				}
			}
			w.wantBits(w.g, []int{0, 1}, upTo(0, p.Data))
		}
	}
}

// TestFormatAgain: P12.1, what was taken is free again behind another Format; one that is given up has written nothing.
func TestFormatAgain(t *testing.T) {
	p := planned(t, 64, 600, 10, 30)
	w := formatted(t, p, 2)
	o := w.begin()
	w.takeAll(o, 5, 4)
	want(t, "Format", alloc.Format(o, p), api.OK)
	w.wantBits(o, []int{0, 1}, upTo(0, p.Data))
	w.wantBlock(o, p.Data)
	w.wantInode(o, 2)
	w.end(o)
	o = w.begin()
	want(t, "Format", alloc.Format(o, p), api.OK)
	w.wantBits(o, []int{0, 1}, upTo(0, p.Data))
	want(t, "Abort", o.Abort(), api.OK)
	w.wantBits(w.g, upTo(0, 3), upTo(0, p.Data+1))
	o = w.begin()
	w.wantBlock(o, p.Data+1)
	w.wantInode(o, 3)
}

// TestFormatErrors: P12.1, with R2: a plan that is not sound is ErrForm, whatever the operation; then comes the operation's error.
func TestFormatErrors(t *testing.T) {
	p := planned(t, 64, 100, 10, 8)
	w := raw(t, p, 0x5a, 2)
	ended := w.begin()
	w.end(ended)
	given := w.begin()
	want(t, "Abort", given.Abort(), api.OK)
	o := w.begin()
	before := w.bitmaps(o)
	for _, q := range unsound(p) {
		for _, x := range []*group.Op{nil, ended, given, {}, o} {
			want(t, "Format of a plan that is not sound", alloc.Format(x, q), api.ErrForm)
		}
	}
	want(t, "Format of nil", alloc.Format(nil, p), api.ErrArg)
	want(t, "Format of an operation that has ended", alloc.Format(ended, p), api.ErrOver)
	want(t, "Format of one that was given up", alloc.Format(given, p), api.ErrOver)
	want(t, "Format of one that no group began", alloc.Format(&group.Op{}, p), api.ErrOver)
	if !bytes.Equal(w.bitmaps(o), before) {
		t.Error("a Format that was refused has written")
	}
	w.end(o)
	if got := w.g.Blocks(); len(got) != 0 {
		t.Error("a Format that was refused has written", got)
	}
}

// TestTakeAll: P12.2 and P12.4, Block gives every block that can be taken, each once, rising, then ErrNoSpace, again and again; Inode so too; Free counts the same all the while, and only the bits of what was taken become 1.
func TestTakeAll(t *testing.T) {
	for _, p := range plans(t) {
		w := formatted(t, p, 2)
		o := w.begin()
		for b := p.Data; b < p.Blocks; b++ {
			if b%61 == 0 || b+3 > p.Blocks || b < p.Data+3 {
				w.wantFree(o, p.Blocks-b, p.Inodes-2)
			}
			w.wantBlock(o, b)
		}
		w.wantBits(o, []int{0, 1}, upTo(0, p.Blocks))
		for i := 2; i < p.Inodes; i++ {
			if i%31 == 0 || i+3 > p.Inodes || i < 5 {
				w.wantFree(o, 0, p.Inodes-i)
			}
			w.wantInode(o, i)
		}
		for range 3 {
			w.wantNone(o)
			w.wantFree(o, 0, 0)
		}
		w.wantBits(o, upTo(0, p.Inodes), upTo(0, p.Blocks))
		want(t, "Abort", o.Abort(), api.OK)
		w.wantBits(w.g, []int{0, 1}, upTo(0, p.Data))
		if t.Failed() {
			t.Fatal(p)
		}
	}
}

// TestLastOne: P12.2 and P12.4, the last free block and the last free inode, wherever they stand, and one more.
func TestLastOne(t *testing.T) {
	for _, p := range plans(t) {
		full := formatted(t, p, 2)
		o := full.begin()
		full.takeAll(o, p.Blocks-p.Data, p.Inodes-2)
		full.end(o)
		full.settle()
		each := 8 * p.Block
		for _, b := range []int{p.Data, p.Data + 1, (p.Data + p.Blocks) / 2, p.Data - p.Data%each + each - 1, p.Data - p.Data%each + each, p.Blocks - p.Blocks%each, p.Blocks - 2, p.Blocks - 1} {
			if b < p.Data || b >= p.Blocks {
				continue
			}
			o := full.begin()
			want(t, "FreeBlock", full.a.FreeBlock(o, b), api.OK)
			full.end(o)
			full.settle()
			o = full.begin()
			full.wantFree(o, 1, 0)
			full.wantBlock(o, b)
			full.wantNone(o)
			full.wantFree(o, 0, 0)
			full.end(o)
			full.settle()
		}
		o = full.begin()
		for _, i := range []int{2, 3, p.Inodes / 2, each - 1, each, p.Inodes - 2, p.Inodes - 1} {
			if i < 2 || i >= p.Inodes {
				continue
			}
			want(t, "FreeInode", full.a.FreeInode(o, i), api.OK)
			full.wantFree(o, 0, 1)
			full.wantInode(o, i)
			full.wantNone(o)
			full.wantFree(o, 0, 0)
		}
		full.wantBits(o, upTo(0, p.Inodes), upTo(0, p.Blocks))
		if t.Failed() {
			t.Fatal(p)
		}
	}
}

// TestNumbers: P12.3, with R2 and R3: which blocks and inodes may be freed, of all numbers, and what is freed then; of one that is free ErrNone.
func TestNumbers(t *testing.T) {
	for _, p := range plans(t) {
		w := formatted(t, p, 2)
		o := w.begin()
		w.takeAll(o, p.Blocks-p.Data, p.Inodes-2)
		for _, b := range append(slices.Clone(far), -1, 0, 1, p.IBits, p.BBits, p.Table, p.Data-1, p.Blocks, p.Blocks+1, 8*p.Block*p.BLen, 8*p.Block*p.BLen-1) {
			if b < p.Data || b >= p.Blocks {
				want(t, "FreeBlock out of range", w.a.FreeBlock(o, b), api.ErrRange)
			}
		}
		for _, i := range append(slices.Clone(far), -1, 0, 1, p.Inodes, p.Inodes+1, 8*p.Block*p.ILen, 8*p.Block*p.ILen-1) {
			if i < 2 || i >= p.Inodes {
				want(t, "FreeInode out of range", w.a.FreeInode(o, i), api.ErrRange)
			}
		}
		w.wantBits(o, upTo(0, p.Inodes), upTo(0, p.Blocks))
		used, freed := upTo(0, p.Blocks), 0
		for _, b := range []int{p.Data, p.Blocks - 1, (p.Data + p.Blocks) / 2} {
			at := slices.Index(used, b)
			if at < 0 {
				continue
			}
			used = slices.Delete(used, at, at+1)
			freed++
			want(t, "FreeBlock", w.a.FreeBlock(o, b), api.OK)
			want(t, "FreeBlock again", w.a.FreeBlock(o, b), api.ErrNone)
			if !w.g.Kept(b) {
				t.Error("the operation has not freed", b)
			}
		}
		inodes := upTo(0, p.Inodes)
		for _, i := range []int{2, p.Inodes - 1, p.Inodes / 2} {
			if at := slices.Index(inodes, i); i >= 2 && at >= 0 {
				inodes = slices.Delete(inodes, at, at+1)
				want(t, "FreeInode", w.a.FreeInode(o, i), api.OK)
				want(t, "FreeInode again", w.a.FreeInode(o, i), api.ErrNone)
			}
		}
		w.wantBits(o, inodes, used)
		// What was freed is counted when it is kept no longer.
		w.wantFree(o, 0, p.Inodes-len(inodes))
		w.end(o)
		w.commit()
		o = w.begin()
		w.wantFree(o, freed, p.Inodes-len(inodes))
		if t.Failed() {
			t.Fatal(p)
		}
	}
}

// TestFreeNone: P12.3, each block and inode that is free is ErrNone, and none that is in use; nothing is changed by it, and nothing is kept for it.
func TestFreeNone(t *testing.T) {
	p := planned(t, 64, 600, 12, 30)
	w := formatted(t, p, 2)
	o := w.begin()
	w.takeAll(o, 7, 3)
	w.end(o)
	w.settle()
	o = w.begin()
	for b := p.Data + 7; b < p.Blocks; b++ {
		want(t, "FreeBlock", w.a.FreeBlock(o, b), api.ErrNone)
		if w.g.Kept(b) {
			t.Fatal("a block that was not freed is kept:", b)
		}
	}
	for i := 5; i < p.Inodes; i++ {
		want(t, "FreeInode", w.a.FreeInode(o, i), api.ErrNone)
	}
	w.wantBits(o, upTo(0, 5), upTo(0, p.Data+7))
	w.end(o)
	if got := w.g.Blocks(); len(got) != 0 {
		t.Error("calls that were refused have written", got)
	}
	o = w.begin()
	for b := p.Data; b < p.Data+7; b++ {
		want(t, "FreeBlock", w.a.FreeBlock(o, b), api.OK)
	}
	for i := 2; i < 5; i++ {
		want(t, "FreeInode", w.a.FreeInode(o, i), api.OK)
	}
	w.wantBits(o, []int{0, 1}, upTo(0, p.Data))
}

// TestKept: P12.2 to P12.4, a block that was freed is given to nobody till a Commit behind the freeing has answered OK, and then is given again; an inode is given at once.
func TestKept(t *testing.T) {
	p := planned(t, 64, 40, 10, 12)
	w := formatted(t, p, 2)
	all := p.Blocks - p.Data
	o := w.begin()
	w.takeAll(o, all, 8)
	w.end(o)
	w.commit()
	o = w.begin()
	b := p.Data + 3
	want(t, "FreeBlock", w.a.FreeBlock(o, b), api.OK)
	want(t, "FreeInode", w.a.FreeInode(o, 4), api.OK)
	w.wantFree(o, 0, 1)
	w.wantInode(o, 4)
	w.wantNone(o)
	want(t, "FreeBlock of a kept one", w.a.FreeBlock(o, b), api.ErrNone)
	w.end(o)
	// Another operation does not get it either.
	o = w.begin()
	w.wantFree(o, 0, 0)
	w.wantNone(o)
	want(t, "FreeBlock of a kept one", w.a.FreeBlock(o, b), api.ErrNone)
	w.end(o)
	// Nor is it given behind a Commit that answers an error.
	o = w.begin()
	want(t, "Commit", w.g.Commit(), api.ErrBusy)
	w.wantFree(o, 0, 0)
	w.wantNone(o)
	w.end(o)
	w.commit()
	o = w.begin()
	w.wantFree(o, 1, 0)
	w.wantBlock(o, b)
	w.wantNone(o)
	w.end(o)
}

// TestKeptDead: P12.2, a Commit that dies gives nothing that was freed.
func TestKeptDead(t *testing.T) {
	p := planned(t, 64, 40, 10, 12)
	for fuse := range 5 {
		w := formatted(t, p, 9)
		o := w.begin()
		w.takeAll(o, p.Blocks-p.Data, 0)
		w.end(o)
		w.commit()
		o = w.begin()
		want(t, "FreeBlock", w.a.FreeBlock(o, p.Data+1), api.OK)
		w.end(o)
		want(t, "Fuse", w.d.Fuse(fuse), api.OK)
		want(t, "Commit", w.g.Commit(), api.ErrDead)
		o = w.begin()
		b, e := w.a.Block(o)
		wantNumber(t, "Block", b, e, 0, api.ErrNoSpace)
	}
}

// TestPending: P12.2 and P12.4, a block that is pending in the log is not given, though its bit is 0 and a Commit came behind its freeing: only when the log is applied.
func TestPending(t *testing.T) {
	p := planned(t, 64, 60, 10, 30)
	w := formatted(t, p, 2)
	o := w.begin()
	w.wantBlock(o, p.Data)
	want(t, "Write", o.Write(p.Data, make([]byte, 64)), api.OK)
	w.wantBlock(o, p.Data+1)
	w.end(o)
	w.commit()
	o = w.begin()
	want(t, "FreeBlock", w.a.FreeBlock(o, p.Data), api.OK)
	want(t, "FreeBlock", w.a.FreeBlock(o, p.Data+1), api.OK)
	w.wantFree(o, p.Blocks-p.Data-2, 8)
	w.end(o)
	w.commit()
	o = w.begin()
	w.wantFree(o, p.Blocks-p.Data-1, 8)
	w.wantBlock(o, p.Data+1)
	w.wantBlock(o, p.Data+2)
	want(t, "Abort", o.Abort(), api.OK)
	w.settle()
	o = w.begin()
	w.wantFree(o, p.Blocks-p.Data, 8)
	w.wantBlock(o, p.Data)
}

// TestManyKept: P12.2 and P12.4, of many blocks that are free and kept, through several blocks of the bitmap, the first that is not kept is found; if all are, ErrNoSpace.
func TestManyKept(t *testing.T) {
	for _, p := range []api.Plan{planned(t, 64, 1600, 2, 20), planned(t, 64, 1024, 2, 506), planned(t, 64, 1025, 4, 20), planned(t, 4096, 200, 9, 8)} {
		w := formatted(t, p, 2)
		o := w.begin()
		w.takeAll(o, p.Blocks-p.Data, 0)
		w.end(o)
		w.settle()
		for _, keeps := range []func(b int) bool{
			func(b int) bool { return b == p.Blocks-1 }, func(b int) bool { return b == p.Data }, func(b int) bool { return b%512 == 511 }, func(b int) bool { return b%512 == 0 }, func(b int) bool { return b%3 == 0 }, func(b int) bool { return b > 1000 }, func(b int) bool { return false },
		} {
			o := w.begin()
			var left []int
			for b := p.Data; b < p.Blocks; b++ {
				want(t, "FreeBlock", w.a.FreeBlock(o, b), api.OK)
				if keeps(b) {
					left = append(left, b)
					// A write undoes the freeing, so that its bit alone is 0.
					want(t, "Data", o.Data(b, make([]byte, p.Block)), api.OK)
				}
			}
			for i, b := range left {
				if i%50 == 0 {
					w.wantFree(o, len(left)-i, p.Inodes-2)
				}
				w.wantBlock(o, b)
			}
			b, e := w.a.Block(o)
			wantNumber(t, "Block", b, e, 0, api.ErrNoSpace)
			w.wantFree(o, 0, p.Inodes-2)
			want(t, "Abort", o.Abort(), api.OK)
		}
	}
}

// TestAbort: P12.2 and P12.3, an operation that is given up, or too large for the log, has taken and freed nothing.
func TestAbort(t *testing.T) {
	p := planned(t, 64, 600, 20, 6)
	w := formatted(t, p, 3)
	o := w.begin()
	w.takeAll(o, 10, 5)
	w.end(o)
	w.commit()
	for _, large := range []bool{false, true} {
		o = w.begin()
		w.takeAll(o, 3, 2)
		for b := p.Data; b < p.Data+5; b++ {
			want(t, "FreeBlock", w.a.FreeBlock(o, b), api.OK)
		}
		want(t, "FreeInode", w.a.FreeInode(o, 3), api.OK)
		w.wantFree(o, p.Blocks-p.Data-13, p.Inodes-8)
		if large {
			for b := range 6 {
				want(t, "Write", o.Write(p.Data+20+b, make([]byte, 64)), api.OK)
			}
			want(t, "End", o.End(), api.ErrLarge)
		} else {
			want(t, "Abort", o.Abort(), api.OK)
		}
		w.wantBits(w.g, upTo(0, 7), upTo(0, p.Data+10))
		o = w.begin()
		w.wantFree(o, p.Blocks-p.Data-10, p.Inodes-7)
		w.wantBlock(o, p.Data+10)
		w.wantInode(o, 7)
		want(t, "Abort", o.Abort(), api.OK)
	}
}

// TestOtherBits: P12.2 to P12.4, whatever stands in the bitmaps: bits of blocks that are no data blocks, and behind the last block and inode, are neither given nor counted nor changed; inodes 0 and 1 are given and counted like others.
func TestOtherBits(t *testing.T) {
	for _, p := range plans(t) {
		empty := raw(t, p, 0, 2)
		o := empty.begin()
		empty.wantFree(o, p.Blocks-p.Data, p.Inodes)
		empty.wantBlock(o, p.Data)
		empty.wantInode(o, 0)
		empty.wantInode(o, 1)
		empty.wantBits(o, []int{0, 1}, []int{p.Data})
		want(t, "FreeInode", empty.a.FreeInode(o, 1), api.ErrRange)
		empty.takeAll(o, p.Blocks-p.Data-1, p.Inodes-2)
		empty.wantNone(o)
		empty.wantFree(o, 0, 0)
		empty.wantBits(o, upTo(0, p.Inodes), upTo(p.Data, p.Blocks))

		full := raw(t, p, 0xff, 2)
		o = full.begin()
		full.wantFree(o, 0, 0)
		full.wantNone(o)
		want(t, "FreeBlock", full.a.FreeBlock(o, p.Blocks), api.ErrRange)
		want(t, "FreeBlock", full.a.FreeBlock(o, p.Blocks-1), api.OK)
		blocks, inodes := upTo(0, 8*p.Block*p.BLen), upTo(0, 8*p.Block*p.ILen)
		full.wantBits(o, inodes, slices.Delete(blocks, p.Blocks-1, p.Blocks))
		if p.Inodes > 2 {
			want(t, "FreeInode", full.a.FreeInode(o, p.Inodes-1), api.OK)
			full.wantFree(o, 0, 1)
		}
		if t.Failed() {
			t.Fatal(p)
		}
	}
}

// TestAnyBytes: P12.2 to P12.4, bitmaps of all kinds of bytes: each bit of its own.
func TestAnyBytes(t *testing.T) {
	x := dice(3)
	for _, p := range plans(t) {
		w := raw(t, p, 0, 4)
		o := w.begin()
		for b := p.IBits; b < p.Table; b++ {
			data := make([]byte, p.Block)
			for i := range data {
				data[i] = byte(x.below(256))
			}
			want(t, "Write", o.Write(b, data), api.OK)
		}
		all := w.bitmaps(o)
		inodes, blocks := on(all[:p.ILen*p.Block]), on(all[p.ILen*p.Block:])
		free := func(used []int, from, to int) []int {
			return slices.DeleteFunc(upTo(from, to), func(i int) bool { return slices.Contains(used, i) })
		}
		freeBlocks, freeInodes := free(blocks, p.Data, p.Blocks), free(inodes, 0, p.Inodes)
		w.wantFree(o, len(freeBlocks), len(freeInodes))
		for _, b := range freeBlocks {
			w.wantBlock(o, b)
		}
		for _, i := range freeInodes {
			w.wantInode(o, i)
		}
		w.wantNone(o)
		used := func(list []int, more []int) []int {
			list = append(list, more...)
			slices.Sort(list)
			return list
		}
		w.wantBits(o, used(inodes, freeInodes), used(blocks, freeBlocks))
		if t.Failed() {
			t.Fatal(p)
		}
	}
}

// TestNothingKept: R5, what is free stands in the bitmaps and the group alone: several Allocs of one group, and new ones, tell the same, and none gives what another gave.
func TestNothingKept(t *testing.T) {
	p := planned(t, 64, 600, 40, 30)
	w := formatted(t, p, 2)
	second, _ := alloc.New(w.g, p)
	o := w.begin()
	for n := range 30 {
		third, _ := alloc.New(w.g, p)
		a := []*alloc.Alloc{w.a, second, third}[n%3]
		b, e := a.Block(o)
		wantNumber(t, "Block", b, e, p.Data+n, api.OK)
		i, e := a.Inode(o)
		wantNumber(t, "Inode", i, e, 2+n, api.OK)
		for _, other := range []*alloc.Alloc{w.a, second, third} {
			free, e := other.Free(o)
			wantNumber(t, "Free", free, e, complex(float64(p.Blocks-p.Data-n-1), float64(p.Inodes-3-n)), api.OK)
		}
	}
	// One that was freed by one is freed for all, and kept for all.
	want(t, "FreeBlock", second.FreeBlock(o, p.Data+4), api.OK)
	want(t, "FreeBlock", w.a.FreeBlock(o, p.Data+4), api.ErrNone)
	w.wantBlock(o, p.Data+30)
	// What others have written into the bitmap counts.
	want(t, "Format", alloc.Format(o, p), api.OK)
	b, e := second.Block(o)
	wantNumber(t, "Block", b, e, p.Data, api.OK)
}

// TestCrash: what was taken and freed behind the last Commit that answered OK is undone by a crash, what was ahead of it stays.
func TestCrash(t *testing.T) {
	p := planned(t, 64, 600, 40, 30)
	w := formatted(t, p, 3)
	o := w.begin()
	w.takeAll(o, 6, 5)
	want(t, "FreeBlock", w.a.FreeBlock(o, p.Data+2), api.OK)
	w.end(o)
	w.commit()
	o = w.begin()
	w.takeAll(o, 3, 2)
	want(t, "FreeBlock", w.a.FreeBlock(o, p.Data+5), api.OK)
	want(t, "FreeInode", w.a.FreeInode(o, 3), api.OK)
	w.end(o)
	want(t, "Crash", w.d.Crash(nil), api.OK)
	w = mounted(t, w.d, p, 2)
	o = w.begin()
	w.wantFree(o, p.Blocks-p.Data-5, p.Inodes-7)
	w.wantBlock(o, p.Data+2)
	w.wantBlock(o, p.Data+6)
	w.wantInode(o, 7)
}

// TestPlanApart: R4, a plan is handed in by its value.
func TestPlanApart(t *testing.T) {
	p := planned(t, 64, 100, 10, 8)
	w := formatted(t, p, 2)
	q := p
	a, e := alloc.New(w.g, q)
	want(t, "New", e, api.OK)
	q.Data, q.Blocks, q.BBits, q.IBits, q.Inodes, q.Block = 3, 4, 0, 0, 1, 0
	w.a = a
	o := w.begin()
	w.wantFree(o, 83, 8)
	w.wantBlock(o, 17)
	w.wantInode(o, 2)
}
