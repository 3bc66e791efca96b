package group_test

import (
	"bytes"
	"math"
	"slices"
	"testing"

	"skerry/api"
	"skerry/cache"
	"skerry/device"
	"skerry/group"
	"skerry/plan"
	"skerry/wal"
)

// TestExample: P11.1 to P11.6, the chapter's examples.
func TestExample(t *testing.T) {
	p := planned(t, 64, 100, 10, 8)
	w := newWorld(t, p, 8)
	writes := w.d.Writes()
	w.wrote(20, 1)
	w.wantBlocks(20)
	if w.d.Writes() != writes || len(w.d.Waiting()) != 0 {
		t.Error("something is on the device:", w.d.Writes()-writes, w.d.Waiting())
	}
	w.wantKept()
	w.commit()
	w.wantBlocks()
	w.wantPending(20)
	w.wantKept(20)
	if data, _ := w.d.Read(20); !bytes.Equal(data, before(p, 20)) {
		t.Error("it is in its place ahead of Settle")
	}
	w.settle()
	if data, _ := w.d.Read(20); !bytes.Equal(data, w.block(1)) {
		t.Error("it is not in its place behind Settle")
	}
	w.wantKept()
	w.freed(30)
	w.wantKept(30)
	o := w.begin()
	if two, e := w.g.Begin(); two != nil || e != api.ErrBusy {
		t.Error("two Begins:", two, e)
	}
	w.wantKept(30)
	want(t, "Abort", o.Abort(), api.OK)
	w.commit()
	w.wantKept()
}

// unsound answers plans that are like p but for one number.
func unsound(p api.Plan) []api.Plan {
	var list []api.Plan
	for _, by := range []int{-1, 1, math.MinInt, math.MaxInt - 4096} {
		for i := range 12 {
			q := p
			*[]*int{&q.Block, &q.Blocks, &q.Inodes, &q.Log, &q.LogAt, &q.IBits, &q.ILen, &q.BBits, &q.BLen, &q.Table, &q.TLen, &q.Data}[i] += by
			// Fewer inodes or other blocks may well be a plan too.
			if plan.Check(q) != api.OK {
				list = append(list, q)
			}
		}
	}
	return append(list, api.Plan{}, api.Plan{Block: p.Block, Blocks: p.Blocks, Inodes: p.Inodes, Log: p.Log})
}

// TestNew: P11.1, with R2 and R3: each of a device, a log and a cache that is nil is ErrArg, ahead of a plan that is not sound; nothing is written, nor read into the cache.
func TestNew(t *testing.T) {
	p := planned(t, 64, 100, 10, 30)
	w := newWorld(t, p, 8)
	s := w.snapped()
	for i := range 8 {
		d, l, c := w.d, w.l, w.c
		if i&1 != 0 {
			d = nil
		}
		if i&2 != 0 {
			l = nil
		}
		if i&4 != 0 {
			c = nil
		}
		for _, q := range append(unsound(p), p) {
			wanted := api.ErrArg
			if i == 0 {
				wanted = plan.Check(q)
			}
			g, e := group.New(d, l, c, q)
			if (g != nil) != (wanted == api.OK) || e != wanted {
				t.Errorf("New, without %d, %v: %v, %d, should be %d", i, q, g, e, wanted)
			}
		}
	}
	w.wantSame("New", s)
	if g, e := group.New(nil, nil, nil, api.Plan{}); g != nil || e != api.ErrArg {
		t.Error("New of nothing:", g, e)
	}
	// A dead device does not matter yet.
	die(t, w.d)
	if g, e := group.New(w.d, w.l, w.c, p); g == nil || e != api.OK {
		t.Error("New on a dead device:", g, e)
	}
}

// TestNewHasNothing: P11.1, a new group has no blocks and keeps none, but what was pending in the log ahead of it is read and kept.
func TestNewHasNothing(t *testing.T) {
	for _, block := range []int{64, 128, 256, 512, 1024, 2048, 4096} {
		p := planned(t, block, 100, 10, 30)
		w := newWorld(t, p, 8)
		w.wantBlocks()
		w.wantKept()
		for b := range p.Blocks {
			data, _ := w.d.Read(b)
			w.wantRead(w.g, b, data)
		}
		want(t, "log.Commit", w.l.Commit([]api.Write{{Block: 60, Data: w.block(1)}, {Block: p.IBits, Data: w.block(2)}}), api.OK)
		again := mounted(t, w.d, p, 2)
		again.wantBlocks()
		again.wantKept(p.IBits, 60)
		again.wantMark(again.g, 60, 1)
		again.wantMark(again.g, p.IBits, 2)
		again.wantRead(again.g, 61, before(p, 61))
		// What is pending was not got from the cache.
		again.wantHeld(61)
		again.settle()
		again.wantKept()
		again.wantMark(again.g, 60, 1)
	}
}

// TestNil: every call of a nil group and of a nil operation, whatever it is handed.
func TestNil(t *testing.T) {
	var g *group.Group
	var o *group.Op
	if got, e := g.Begin(); got != nil || e != api.ErrArg {
		t.Error("Begin:", got, e)
	}
	if got := g.Blocks(); len(got) != 0 {
		t.Error("Blocks:", got)
	}
	want(t, "Commit", g.Commit(), api.ErrArg)
	want(t, "Settle", g.Settle(), api.ErrArg)
	want(t, "Abort", o.Abort(), api.ErrArg)
	want(t, "End", o.End(), api.ErrArg)
	for _, list := range [][]int{nil, {}, {50}, {-1}, far} {
		want(t, "Out", g.Out(list), api.ErrArg)
	}
	for _, b := range append(slices.Clone(far), -1, 0, 1, 50, 99, 100) {
		if got, e := g.Read(b); len(got) != 0 || e != api.ErrArg {
			t.Error("Read of a group:", b, got, e)
		}
		if g.Kept(b) {
			t.Error("Kept:", b)
		}
		if got, e := o.Read(b); len(got) != 0 || e != api.ErrArg {
			t.Error("Read of an operation:", b, got, e)
		}
		want(t, "Free", o.Free(b), api.ErrArg)
		for _, data := range [][]byte{nil, {}, {1}, marked(64, 1)} {
			want(t, "Write", o.Write(b, data), api.ErrArg)
			want(t, "Data", o.Data(b, data), api.ErrArg)
		}
	}
}

// callAll calls all that a group and its operations have, for no panic.
func callAll(g *group.Group) {
	all := []*group.Op{{}}
	numbers := append(slices.Clone(far), -1, 0, 1, 2, 31, 32, 50, 99, 100, 4095, 4096)
	for range 3 {
		if o, _ := g.Begin(); o != nil {
			all = append(all, o)
		}
		for _, o := range all {
			for _, b := range numbers {
				o.Read(b)
				g.Read(b)
				g.Kept(b)
				for _, data := range [][]byte{nil, marked(64, 1), marked(128, 1)} {
					o.Write(b, data)
					o.Data(b+1, data)
				}
				o.Free(b + 2)
			}
			o.End()
			o.Abort()
		}
		g.Commit()
		g.Out(numbers)
		g.Out(nil)
		g.Settle()
		g.Blocks()
	}
}

// TestOddObjects: R1, objects that no call has made, and objects of several devices and plans, answer something, without a panic.
func TestOddObjects(t *testing.T) {
	callAll(nil)
	callAll(&group.Group{})
	p := planned(t, 64, 100, 10, 30)
	one, two := newWorld(t, p, 3), newWorld(t, planned(t, 128, 50, 4, 8), 2)
	small := newWorld(t, planned(t, 64, 40, 4, 8), 2)
	devices := []*device.Device{one.d, two.d, small.d, {}}
	logs := []*wal.Log{one.l, two.l, small.l, {}}
	caches := []*cache.Cache{one.c, two.c, small.c, {}}
	for _, d := range devices {
		for _, l := range logs {
			for _, c := range caches {
				for _, q := range []api.Plan{p, two.p, small.p, {}} {
					if g, e := group.New(d, l, c, q); e == api.OK {
						callAll(g)
					}
				}
			}
		}
	}
}

// TestBegin: P11.1, one operation at a time; behind each way in which one is over there may be another, which is a new one.
func TestBegin(t *testing.T) {
	p := planned(t, 64, 100, 10, 8)
	w := newWorld(t, p, 1)
	large := func(o *group.Op) api.Errno {
		w.write(o, 40, 1, 2, 3, 4, 5, 6, 7, 8)
		return o.End()
	}
	full := func(o *group.Op) api.Errno {
		w.data(o, 41, 1)
		w.c.Get(40)
		w.c.Pin(40)
		defer w.c.Unpin(40)
		return o.End()
	}
	var all []*group.Op
	for i, over := range []func(*group.Op) api.Errno{(*group.Op).End, (*group.Op).Abort, large, full, (*group.Op).End} {
		s := w.snapped()
		o := w.begin()
		if slices.Contains(all, o) {
			t.Error("the same operation again:", i)
		}
		all = append(all, o)
		for range 3 {
			if two, e := w.g.Begin(); two != nil || e != api.ErrBusy {
				t.Error("Begin while one is open:", two, e)
			}
		}
		w.wantSame("Begin", s)
		// What refused to begin has not closed the one that is open.
		w.write(o, 50, 9)
		w.wantMark(o, 50, 9)
		want(t, "Free", o.Free(50), api.OK)
		want(t, "the end", over(o), []api.Errno{api.OK, api.OK, api.ErrLarge, api.ErrFull, api.OK}[i])
	}
}

// askOver asks an operation that is no longer open, with arguments that are right and wrong.
func askOver(t *testing.T, how string, p api.Plan, o *group.Op) {
	t.Helper()
	for _, b := range append(slices.Clone(far), -1, 0, p.IBits-1, p.IBits, p.Data-1, p.Data, p.Blocks-1, p.Blocks) {
		if got, e := o.Read(b); len(got) != 0 || e != api.ErrOver {
			t.Errorf("%s: Read(%d): %v, %d", how, b, got, e)
		}
		for _, data := range [][]byte{nil, {}, marked(p.Block, 1)[1:], marked(p.Block, 1), marked(p.Block+1, 1)} {
			want(t, how+": Write", o.Write(b, data), api.ErrOver)
			want(t, how+": Data", o.Data(b, data), api.ErrOver)
		}
		want(t, how+": Free", o.Free(b), api.ErrOver)
	}
	want(t, how+": Abort", o.Abort(), api.ErrOver)
	want(t, how+": End", o.End(), api.ErrOver)
}

// TestOver: every call of an operation that has ended, with and without an error, and of one that was given up; none of them changes anything, also while another one is open.
func TestOver(t *testing.T) {
	p := planned(t, 64, 100, 10, 8)
	for how, over := range map[string]func(w *world, o *group.Op){
		"ended":    func(w *world, o *group.Op) { w.end(o) },
		"given up": func(w *world, o *group.Op) { want(t, "Abort", o.Abort(), api.OK) },
		"too large": func(w *world, o *group.Op) {
			w.write(o, 40, 1, 2, 3, 4, 5, 6, 7)
			want(t, "End", o.End(), api.ErrLarge)
		},
		"full": func(w *world, o *group.Op) {
			for _, b := range []int{80, 81} {
				w.c.Get(b)
				w.c.Pin(b)
			}
			want(t, "End", o.End(), api.ErrFull)
		},
		"dead": func(w *world, o *group.Op) {
			w.write(o, 40, 1, 2, 3, 4)
			die(t, w.d)
			want(t, "End", o.End(), api.ErrDead)
			want(t, "Crash", w.d.Crash(nil), api.OK)
		},
	} {
		w := newWorld(t, p, 2)
		w.wrote(60, 1, 2, 3)
		o := w.begin()
		w.write(o, 50, 4)
		w.data(o, 70, 5)
		w.free(o, 61)
		over(w, o)
		s := w.snapped()
		askOver(t, how, p, o)
		w.wantSame(how, s)
		next := w.begin()
		w.write(next, 50, 6)
		w.free(next, 62)
		s = w.snapped()
		askOver(t, how+", another one open", p, o)
		w.wantSame(how, s)
		w.wantMark(next, 50, 6)
		if !w.g.Kept(62) {
			t.Error(how, "the other one's Free is gone")
		}
		w.end(next)
		w.wantMark(w.g, 50, 6)
		askOver(t, how+", behind another one", p, o)
	}
}

// TestTwoGroups: an operation of one group is nothing to another; each has one that is open.
func TestTwoGroups(t *testing.T) {
	p := planned(t, 64, 100, 10, 8)
	one, two := newWorld(t, p, 4), newWorld(t, p, 4)
	o, u := one.begin(), two.begin()
	one.write(o, 50, 1)
	two.write(u, 50, 2)
	one.free(o, 60)
	two.wantKept()
	one.end(o)
	askOver(t, "ended", p, o)
	two.wantMark(u, 50, 2)
	two.wantRead(two.g, 50, before(p, 50))
	two.end(u)
	one.wantMark(one.g, 50, 1)
	two.wantMark(two.g, 50, 2)
	one.wantKept(60)
}

// TestRanges: P11.2, with R2: each call, for blocks at all edges and far from them, with data of all lengths; what is not refused is noted.
func TestRanges(t *testing.T) {
	for _, p := range []api.Plan{planned(t, 64, 100, 10, 8), planned(t, 64, 10, 2, 4), planned(t, 128, 60, 9, 30), planned(t, 4096, 30, 2, 6), planned(t, 64, 4096, 1024, 512)} {
		w := newWorld(t, p, 4)
		blocks := append(slices.Clone(far), -1, 0, 1, p.LogAt, p.IBits-1, p.IBits, p.IBits+1, p.BBits, p.Table, p.Data-1, p.Data, p.Data+1, p.Blocks-1, p.Blocks, p.Blocks+1)
		for i, b := range blocks {
			for _, n := range []int{-1, 0, 1, p.Block - 1, p.Block, p.Block + 1, 2 * p.Block} {
				var data []byte
				if n >= 0 {
					data = make([]byte, n)
					copy(data, marked(max(n, 2), 7*i+n))
				}
				o := w.begin()
				if e := refused(b, p.IBits, p.Blocks, n == p.Block); w.notes(o, o.Write, b, data, e) {
					w.wantRead(o, b, data)
				}
				want(t, "Abort", o.Abort(), api.OK)
				o = w.begin()
				if e := refused(b, p.Data, p.Blocks, n == p.Block); w.notes(o, o.Data, b, data, e) {
					w.wantRead(o, b, data)
				}
				want(t, "Abort", o.Abort(), api.OK)
			}
			w.askBlock(b)
		}
		w.wantBlocks()
		w.wantKept()
		w.wantDirty()
	}
}

// refused answers the error of a block and of data that has a block's length or not.
func refused(b, first, behind int, fits bool) api.Errno {
	switch {
	case b < first || b >= behind:
		return api.ErrRange
	case !fits:
		return api.ErrArg
	}
	return api.OK
}

// notes lets an operation do a call, which must answer so: it answers whether that is OK.
func (w *world) notes(o *group.Op, do func(int, []byte) api.Errno, b int, data []byte, wanted api.Errno) bool {
	w.t.Helper()
	old, oldErr := o.Read(b)
	if e := do(b, data); e != wanted {
		w.t.Errorf("block %d, %d bytes: %d, should be %d", b, len(data), e, wanted)
	}
	if wanted != api.OK {
		if got, e := o.Read(b); e != oldErr || !bytes.Equal(got, old) {
			w.t.Errorf("block %d, %d bytes: refused, but noted", b, len(data))
		}
	}
	return wanted == api.OK
}

// askBlock reads and frees a block, also one that is none.
func (w *world) askBlock(b int) {
	w.t.Helper()
	o := w.begin()
	wanted := refused(b, 0, w.p.Blocks, true)
	for _, r := range []reader{o, w.g} {
		if got, e := r.Read(b); e != wanted || (len(got) == w.p.Block) != (e == api.OK) || e != api.OK && len(got) != 0 {
			w.t.Errorf("Read(%d): %d bytes, %d, should be %d", b, len(got), e, wanted)
		}
	}
	wanted = refused(b, w.p.Data, w.p.Blocks, true)
	want(w.t, "Free", o.Free(b), wanted)
	if w.g.Kept(b) != (wanted == api.OK) {
		w.t.Errorf("behind Free(%d): Kept %v", b, w.g.Kept(b))
	}
	want(w.t, "Abort", o.Abort(), api.OK)
}

// TestReadErrors: P11.2, what the cache answers where it can't get a block; blocks that the operation, the group or the log has are read all the same.
func TestReadErrors(t *testing.T) {
	p := planned(t, 64, 100, 10, 8)
	w := newWorld(t, p, 1)
	w.wrote(50, 1)
	w.commit()
	w.wrote(51, 2)
	o := w.begin()
	w.write(o, 52, 3)
	w.data(o, 53, 4)
	if _, e := w.c.Get(60); e != api.OK {
		t.Fatal("Get:", e)
	}
	want(t, "Pin", w.c.Pin(60), api.OK)
	wantAll := func(wanted api.Errno) {
		t.Helper()
		w.wantMark(o, 50, 1)
		w.wantMark(o, 51, 2)
		w.wantMark(o, 52, 3)
		w.wantMark(o, 53, 4)
		w.wantMark(w.g, 50, 1)
		w.wantMark(w.g, 51, 2)
		w.wantRead(o, 60, before(p, 60))
		for _, b := range []int{0, 1, 52, 53, 61, 99} {
			if got, e := w.g.Read(b); len(got) != 0 || e != wanted {
				t.Errorf("Read(%d) of the group: %v, %d, should be %d", b, got, e, wanted)
			}
		}
		for _, b := range []int{0, 54, 99} {
			if got, e := o.Read(b); len(got) != 0 || e != wanted {
				t.Errorf("Read(%d) of the operation: %v, %d, should be %d", b, got, e, wanted)
			}
		}
		for _, b := range far {
			if got, e := o.Read(b); len(got) != 0 || e != api.ErrRange {
				t.Errorf("Read(%d) of the operation: %v, %d", b, got, e)
			}
		}
	}
	wantAll(api.ErrFull)
	die(t, w.d)
	wantAll(api.ErrFull)
	// A cache with room for one more finds the device dead.
	w.d.Crash(nil)
	w = newWorld(t, p, 20)
	w.wrote(50, 1)
	w.commit()
	w.wrote(51, 2)
	o = w.begin()
	w.write(o, 52, 3)
	w.data(o, 53, 4)
	w.c.Get(60)
	die(t, w.d)
	wantAll(api.ErrDead)
}

// TestOneBlock: P11.2 to P11.4, all rows of up to four of Write, Data, Free and refused ones of one block in one operation: the last that was noted counts, within the operation and behind its End; given up, nothing does.
func TestOneBlock(t *testing.T) {
	p := planned(t, 64, 100, 10, 8)
	const b = 50
	for n := range 5 {
		for code := range pow(4, n) {
			for _, abort := range []bool{false, true} {
				w := newWorld(t, p, 8)
				o := w.begin()
				last, mark := 3, 0
				for i := range n {
					act := code / pow(4, i) % 4
					switch act {
					case 0:
						w.write(o, b, i+1)
					case 1:
						w.data(o, b, i+1)
					case 2:
						w.free(o, b)
					case 3:
						want(t, "Write", o.Write(b, w.block(9)[1:]), api.ErrArg)
						want(t, "Data", o.Data(b, nil), api.ErrArg)
						continue
					}
					last, mark = act, i+1
					w.wantNoted(o, b, last, mark)
				}
				w.wantNoted(o, b, last, mark)
				if abort {
					want(t, "Abort", o.Abort(), api.OK)
					last = 3
				} else {
					w.end(o)
				}
				w.wantDone(b, last, mark)
				if t.Failed() {
					t.Fatalf("row %d of %d, abort %v", code, n, abort)
				}
			}
		}
	}
}

func pow(a, n int) int {
	r := 1
	for range n {
		r *= a
	}
	return r
}

// wantNoted asks the open operation and the group for a block whose last note is a Write 0, Data 1, Free 2 or none 3.
func (w *world) wantNoted(o *group.Op, b, last, mark int) {
	w.t.Helper()
	old := before(w.p, b)
	if last < 2 {
		w.wantMark(o, b, mark)
	} else {
		w.wantRead(o, b, old)
	}
	w.wantRead(w.g, b, old)
	w.wantBlocks()
	w.wantDirty()
	if last == 2 {
		w.wantKept(b)
	} else {
		w.wantKept()
	}
}

// wantDone asks the group for that block behind the operation, and behind a Commit and a Settle.
func (w *world) wantDone(b, last, mark int) {
	w.t.Helper()
	old := before(w.p, b)
	var blocks, dirty, kept []int
	switch last {
	case 0:
		blocks = []int{b}
	case 1:
		dirty = []int{b}
	case 2:
		kept = []int{b}
	}
	w.wantBlocks(blocks...)
	w.wantDirty(dirty...)
	w.wantKept(kept...)
	now := w.block(mark)
	if last >= 2 {
		now = old
	}
	w.wantRead(w.g, b, now)
	w.commit()
	w.wantBlocks()
	w.wantDirty()
	w.wantKept(blocks...)
	w.wantPending(blocks...)
	w.wantRead(w.g, b, now)
	w.settle()
	w.wantKept()
	w.wantRead(w.g, b, now)
	if data, _ := w.d.Read(b); !bytes.Equal(data, now) {
		w.t.Errorf("block %d of the device: %v, should be %v", b, data, now)
	}
}

// TestWhoHas: P11.2, a block that the operation has by Write or Data or has freed, the group, the log and the cache have, each alone and together: who is asked first, and that none behind it is.
func TestWhoHas(t *testing.T) {
	p := planned(t, 64, 100, 10, 8)
	const b = 50
	for i := range 32 {
		w := newWorld(t, p, 8)
		wanted := before(p, b)
		if i&1 != 0 {
			want(t, "Put", w.c.Put(b, w.block(1)), api.OK)
			wanted = w.block(1)
		}
		if i&2 != 0 {
			want(t, "log.Commit", w.l.Commit([]api.Write{{Block: b, Data: w.block(2)}}), api.OK)
			wanted = w.block(2)
		}
		if i&4 != 0 {
			w.wrote(b, 3)
			wanted = w.block(3)
		}
		o := w.begin()
		own := wanted
		switch i >> 3 {
		case 1:
			w.write(o, b, 4)
			own = w.block(4)
		case 2:
			w.data(o, b, 5)
			own = w.block(5)
		case 3:
			w.free(o, b)
		}
		held := w.c.Held()
		w.wantRead(o, b, own)
		w.wantRead(w.g, b, wanted)
		if i&7 == 0 {
			// Nobody has it but the device: the cache got it.
			held = []int{b}
		}
		w.wantHeld(held...)
		// Other blocks are nobody's.
		w.wantRead(o, b+1, before(p, b+1))
		w.wantRead(w.g, b-1, before(p, b-1))
		if t.Failed() {
			t.Fatal("who has it:", i)
		}
	}
}

// TestOthersOnTheLog: P11.2, P11.6 and R5, what is pending is what the log says, also where others than the group commit and apply.
func TestOthersOnTheLog(t *testing.T) {
	p := planned(t, 64, 100, 10, 8)
	w := newWorld(t, p, 8)
	for i := range 6 {
		want(t, "log.Commit", w.l.Commit([]api.Write{{Block: 50 + i%2, Data: w.block(10 + i)}}), api.OK)
		w.wantMark(w.g, 50+i%2, 10+i)
		if !w.g.Kept(50 + i%2) {
			t.Error("pending, but not kept:", i)
		}
		if i%3 == 2 {
			want(t, "log.Apply", w.l.Apply(), api.OK)
			w.wantKept()
			w.wantMark(w.g, 50+i%2, 10+i)
			want(t, "Drop", w.c.Drop(50+i%2), api.OK)
		}
	}
	w.wantKept()
}

// TestAbort: P11.3, an operation that is given up has done nothing, whatever it noted, how far it got, and whatever stands beside it.
func TestAbort(t *testing.T) {
	p := planned(t, 64, 100, 10, 8)
	for i := range 16 {
		w := newWorld(t, p, 4)
		w.hasData(60, 1, 2)
		w.wrote(50, 3)
		if i&1 != 0 {
			w.commit()
			w.wrote(51, 4)
		}
		w.freed(70)
		s := w.snapped()
		o := w.begin()
		if i&2 != 0 {
			w.write(o, 50, 5, 6, 7, 8, 9, 10, 11, 12, 13, 14)
		}
		if i&4 != 0 {
			w.data(o, 60, 15, 16, 17)
			w.data(o, 90, 18)
		}
		if i&8 != 0 {
			w.free(o, 50, 61, 70, 71)
		}
		want(t, "Abort", o.Abort(), api.OK)
		w.wantSame("an operation that was given up", s)
		w.commit()
		w.wantKept([]int{50, 51}[:1+i&1]...)
		w.settle()
		w.wantMark(w.g, 50, 3)
		w.wantMark(w.g, 60, 1)
		w.wantMark(w.g, 61, 2)
		w.wantRead(w.g, 90, before(p, 90))
		if t.Failed() {
			t.Fatal("kind:", i)
		}
	}
	// Abort asks the device for nothing.
	w := newWorld(t, p, 4)
	o := w.begin()
	w.write(o, 50, 1)
	die(t, w.d)
	want(t, "Abort", o.Abort(), api.OK)
	w.wantBlocks()
}
