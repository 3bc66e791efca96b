package group_test

import (
	"bytes"
	"fmt"
	"math"
	"slices"
	"testing"

	"skerry/api"
	"skerry/codec"
	"skerry/device"
	"skerry/wal"
)

// mostFor counts, block by block, how many blocks a log has room for, with a descriptor ahead of as many as one names.
func mostFor(p api.Plan) int {
	most, used, n := (p.Block-10)/2, 0, 0
	for {
		if n%most == 0 {
			used++
		}
		used++
		if used > p.Log {
			return n
		}
		n++
	}
}

// marks answers n marks from first on.
func marks(first, n int) []int {
	list := make([]int, n)
	for i := range list {
		list[i] = first + i
	}
	return list
}

// logs are plans whose logs end just behind a descriptor's blocks, just ahead, or amid them.
func logs(t *testing.T) []api.Plan {
	t.Helper()
	var list []api.Plan
	for _, log := range []int{4, 5, 8, 27, 28, 29, 30, 31, 56, 57, 58, 70} {
		list = append(list, planned(t, 64, 300, 10, log))
	}
	return append(list, planned(t, 128, 200, 10, 60), planned(t, 128, 200, 10, 61), planned(t, 128, 200, 10, 62), planned(t, 256, 100, 10, 30), planned(t, 4096, 100, 10, 20))
}

// TestMostFor: how many blocks fit, by the chapter's numbers of Need.
func TestMostFor(t *testing.T) {
	for log, wanted := range map[int]int{4: 3, 8: 7, 28: 27, 29: 27, 30: 28, 31: 29, 56: 54, 57: 54, 58: 55} {
		if got := mostFor(api.Plan{Block: 64, Log: log}); got != wanted {
			t.Errorf("a log of %d: %d blocks, should be %d", log, got, wanted)
		}
	}
}

// TestEnd: P11.4, what an operation has written is the group's, its data is dirty in the cache, and what it freed is gone and kept; nothing is on the device.
func TestEnd(t *testing.T) {
	p := planned(t, 64, 100, 10, 30)
	w := newWorld(t, p, 8)
	w.wrote(60, 1, 2)
	w.hasData(70, 3, 4)
	w.settle()
	w.wrote(61, 5)
	s := w.d.Writes()
	o := w.begin()
	w.write(o, 62, 6)
	w.write(o, p.IBits, 7)
	w.write(o, 99, 8)
	w.data(o, 72, 9)
	w.data(o, p.Data, 10)
	w.free(o, 61, 70, 98)
	w.end(o)
	w.wantBlocks(p.IBits, 62, 99)
	w.wantDirty(p.Data, 72)
	w.wantKept(61, 70, 98)
	for b, mark := range map[int]int{60: 1, 61: 2, 62: 6, p.IBits: 7, 99: 8, 72: 9, p.Data: 10, 71: 4, 70: 3} {
		w.wantMark(w.g, b, mark)
	}
	if w.d.Writes() != s || len(w.d.Waiting()) != 0 {
		t.Error("something is on the device:", w.d.Waiting())
	}
	// An operation that did nothing ends, and does nothing.
	again := w.snapped()
	w.end(w.begin())
	w.wantSame("an operation that did nothing", again)
}

// TestEndLarge: P11.4, an End whose blocks' Need is just Log, and one more; that one has done nothing, also of its data and of what it freed, and does not commit.
func TestEndLarge(t *testing.T) {
	for _, p := range logs(t) {
		n := mostFor(p)
		w := newWorld(t, p, 4)
		w.wrote(p.IBits, marks(1, n)...)
		w.wantBlocks(marks(p.IBits, n)...)
		w.commit()
		w.wantPending(marks(p.IBits, n)...)
		w.settle()
		w.hasData(p.Blocks-1, 500)
		w.wrote(p.Blocks-2, 501)
		s := w.snapped()
		for _, more := range []int{1, 2, 20} {
			o := w.begin()
			w.write(o, p.IBits, marks(200, n+more)...)
			w.data(o, p.Blocks-3, 502, 503, 504)
			want(t, "End", o.End(), api.ErrLarge)
			w.wantSame("an End that was too large", s)
			o = w.begin()
			w.write(o, p.IBits, marks(200, n+more)...)
			w.free(o, p.Blocks-3, p.Blocks-2, p.Blocks-1)
			want(t, "End", o.End(), api.ErrLarge)
			w.wantSame("an End that was too large", s)
		}
		// Blocks that were written and then freed, or written as data, do not count; those written twice count once.
		o := w.begin()
		w.write(o, p.IBits, marks(200, n)...)
		w.write(o, p.IBits, marks(300, n)...)
		w.write(o, p.Data+n, 1, 2)
		w.free(o, p.Data+n)
		w.data(o, p.Data+n+1, 3)
		w.end(o)
		w.wantMark(w.g, p.IBits, 300)
		if t.Failed() {
			t.Fatal("a log of", p.Log)
		}
	}
}

// TestEndLargeDead: P11.4 with R2, ErrLarge comes ahead of all that the device answers, and asks it for nothing.
func TestEndLargeDead(t *testing.T) {
	p := planned(t, 64, 100, 10, 8)
	for _, fuse := range []int{-1, 0, 5} {
		w := newWorld(t, p, 1)
		w.wrote(50, 1, 2, 3)
		w.hasData(90, 9)
		writes := w.d.Writes()
		if fuse < 0 {
			die(t, w.d)
		} else {
			want(t, "Fuse", w.d.Fuse(fuse), api.OK)
		}
		dead := w.d.Dead()
		o := w.begin()
		w.write(o, 50, marks(1, 8)...)
		w.data(o, 70, 1, 2)
		want(t, "End", o.End(), api.ErrLarge)
		if w.d.Writes() != writes || w.d.Dead() != dead {
			t.Error("the device was asked:", w.d.Writes()-writes, w.d.Dead())
		}
		w.wantBlocks(50, 51, 52)
		w.wantDirty(90)
	}
}

// TestEndCommits: P11.4, an operation that fits alone, with as many of the group's as just fit, and one more: a Commit comes ahead of it, of the group's blocks alone.
func TestEndCommits(t *testing.T) {
	for _, p := range logs(t) {
		n := mostFor(p)
		for own := 1; own <= n; own++ {
			if own > 4 && own < n-3 && own%7 != 0 {
				continue
			}
			// Just as many as fit: no Commit.
			w := newWorld(t, p, 4)
			if n > own {
				w.wrote(p.IBits, marks(1, n-own)...)
			}
			writes := w.d.Writes()
			w.wrote(p.IBits+n-own, marks(100, own)...)
			w.wantBlocks(marks(p.IBits, n)...)
			if w.d.Writes() != writes || w.l.Header().Seq != 1 {
				t.Errorf("a Commit, though all fits: %v", w.l.Header())
			}
			// One more: the group's alone are committed.
			w = newWorld(t, p, 4)
			w.wrote(p.IBits, marks(1, n-own+1)...)
			w.wrote(p.IBits+n-own+1, marks(100, own)...)
			w.wantBlocks(marks(p.IBits+n-own+1, own)...)
			w.wantPending(marks(p.IBits, n-own+1)...)
			for i := range n + 1 {
				w.wantMark(w.g, p.IBits+i, append(marks(1, n-own+1), marks(100, own)...)[i])
			}
			// A block that both have is one: all fits again.
			w = newWorld(t, p, 4)
			w.wrote(p.IBits, marks(1, n-own+1)...)
			w.wrote(p.IBits+n-own, marks(100, own)...)
			w.wantBlocks(marks(p.IBits, n)...)
			w.wantPending()
			if t.Failed() {
				t.Fatalf("a log of %d, %d of %d own blocks", p.Log, own, n)
			}
		}
	}
}

// TestEndCommitsFirst: P11.4, what the ending operation does is behind the Commit within its End: its data is dirty and what it freed is kept behind it; the group's blocks that it frees count till then, and are committed.
func TestEndCommitsFirst(t *testing.T) {
	p := planned(t, 64, 100, 10, 8)
	w := newWorld(t, p, 8)
	w.wrote(50, marks(1, 7)...)
	w.hasData(80, 20)
	w.freed(81)
	o := w.begin()
	w.free(o, 50, 51, 82)
	w.write(o, 60, 8)
	w.data(o, 83, 21)
	w.end(o)
	w.wantBlocks(60)
	w.wantPending(marks(50, 7)...)
	w.wantDirty(83)
	w.wantKept(append(marks(50, 7), 82)...)
	w.wantMark(w.g, 50, 1)
	// An operation that writes none does not commit, whatever the group has.
	w = newWorld(t, p, 8)
	w.wrote(50, marks(1, 7)...)
	w.freed(51)
	w.hasData(60, 1)
	w.end(w.begin())
	w.wantPending()
	w.wantBlocks(50, 52, 53, 54, 55, 56)
	// The Commit within End applies the log where it must, and tells the cache.
	w = newWorld(t, p, 8)
	w.wantRead(w.g, 50, before(p, 50))
	w.wrote(50, marks(1, 5)...)
	w.commit()
	w.wrote(60, marks(11, 5)...)
	w.wrote(70, marks(21, 5)...)
	w.wantPending(marks(60, 5)...)
	w.wantBlocks(marks(70, 5)...)
	w.wantMark(w.g, 50, 1)
}

// full answers a world whose log's Seq has room for so many parts more.
func full(t *testing.T, p api.Plan, room int) *world {
	t.Helper()
	d := fresh(t, p)
	h, e := codec.Header(api.Header{Seq: math.MaxUint32 - room}, p.Block)
	want(t, "codec.Header", e, api.OK)
	want(t, "Load", d.Load(1, h), api.OK)
	return mounted(t, d, p, 8)
}

// TestEndCommitFull: P11.4, P11.5, where the log's Seq has no room, Commit, Settle and an End that commits answer ErrFull: the operation has done nothing, and the group has what it had.
func TestEndCommitFull(t *testing.T) {
	p := planned(t, 64, 100, 10, 8)
	w := full(t, p, 1)
	w.wrote(50, 1)
	w.commit()
	w.hasData(80, 3)
	w.wrote(51, marks(2, 6)...)
	w.freed(58, 81)
	end := func() api.Errno {
		o := w.begin()
		w.write(o, 51, 12)
		w.write(o, 60, 10, 11)
		w.data(o, 80, 13, 14)
		w.free(o, 52, 53, 90)
		return o.End()
	}
	for i, call := range []func() api.Errno{w.g.Commit, end, w.g.Settle, end, w.g.Commit} {
		want(t, "the call", call(), api.ErrFull)
		w.wantBlocks(marks(51, 6)...)
		// The Commit got as far as that: data is written, and the log is applied.
		w.wantKept(58, 81)
		w.wantPending()
		w.wantDirty()
		for b, mark := range map[int]int{50: 1, 51: 2, 52: 3, 53: 4, 56: 7, 80: 3} {
			w.wantMark(w.g, b, mark)
		}
		w.wantRead(w.g, 60, before(p, 60))
		w.wantRead(w.g, 81, before(p, 81))
		if w.l.Header() != (api.Header{Seq: math.MaxUint32, Tail: 2}) {
			t.Error("Header:", w.l.Header())
		}
		if t.Failed() {
			t.Fatal("call:", i)
		}
	}
	// A group without blocks needs no log.
	w.freed(marks(51, 6)...)
	w.wantBlocks()
	w.commit()
	w.settle()
	w.wantKept()
}

// TestCommitFullDead: P11.5 with R2, where the log can't be applied, that is answered, not what the log would say of its Seq behind it; where nothing is to be applied, its Seq comes first.
func TestCommitFullDead(t *testing.T) {
	p := planned(t, 64, 100, 10, 8)
	for _, n := range []int{5, 6} {
		w := full(t, p, 1)
		w.wrote(50, 1)
		w.commit()
		w.wrote(60, marks(2, n)...)
		want(t, "Fuse", w.d.Fuse(0), api.OK)
		wanted := api.ErrFull
		if n > 5 {
			wanted = api.ErrDead
		}
		want(t, "Commit", w.g.Commit(), wanted)
		want(t, "Settle", w.g.Settle(), wanted)
		w.wantBlocks(marks(60, n)...)
		w.wantPending(50)
	}
}

// TestEndCommitDead: P11.4, P11.5, the device dies at each write and flush of the Commit within End: the operation is over, and has done nothing; the group has what it had, and is read.
func TestEndCommitDead(t *testing.T) {
	p := planned(t, 64, 100, 10, 8)
	for _, twice := range []bool{false, true} {
		for fuse := 0; ; fuse++ {
			w := newWorld(t, p, 8)
			if twice {
				// There is no room then, so the log is applied first.
				w.wrote(60, 1, 2, 3, 4)
				w.commit()
			}
			w.hasData(80, 3, 4)
			w.wrote(50, marks(5, 4)...)
			w.freed(53, 90)
			o := w.begin()
			w.write(o, 51, marks(15, 7)...)
			w.data(o, 81, 16, 17)
			w.free(o, 50, 61, 91)
			want(t, "Fuse", w.d.Fuse(fuse), api.OK)
			e := o.End()
			if e == api.OK {
				// All that a Commit asks for was cut off: two blocks of data, four of the log and three steps to settle them, and, with an Apply, four and three more.
				if wanted := 2 + 4 + 3; !twice && fuse != wanted || twice && fuse != wanted+4+3 {
					t.Errorf("an End that commits is done behind a fuse of %d", fuse)
				}
				break
			}
			want(t, "End", e, api.ErrDead)
			w.wantBlocks(50, 51, 52)
			for i := range 3 {
				w.wantMark(w.g, 50+i, 5+i)
			}
			kept := append(pendingBlocks(w.l), 53, 90)
			slices.Sort(kept)
			w.wantKept(kept...)
			w.wantMark(w.g, 81, 4)
			if held := w.c.Held(); slices.Contains(held, 82) {
				t.Error("data of the operation is in the cache:", held)
			}
			askOver(t, "dead", p, o)
			// Others begin and end in memory, but nothing is committed.
			w.wrote(51, 40)
			w.wantBlocks(50, 51, 52)
			want(t, "Commit", w.g.Commit(), api.ErrDead)
			w.wantBlocks(50, 51, 52)
			// The device lives again; the log may, if it has not met the death: data was cut off then.
			want(t, "Crash", w.d.Crash(nil), api.OK)
			e = w.g.Commit()
			if fuse < 2 != (e == api.OK) {
				t.Errorf("fuse %d: Commit behind the crash: %d", fuse, e)
			}
			if t.Failed() {
				t.Fatal("fuse:", fuse, twice)
			}
		}
	}
}

// TestEndPut: P11.4, data that can't be put, at each place of its row: what comes ahead of it, rising, is put, what comes behind is not, and nothing else is done.
func TestEndPut(t *testing.T) {
	p := planned(t, 64, 100, 10, 30)
	for missing := range 64 {
		w := newWorld(t, p, 8)
		w.wrote(50, 1, 2)
		w.freed(52)
		// Of the six blocks of data some are held; all that is held is pinned, so there is room for no other.
		held := []int{62}
		for i := range 6 {
			if missing&(1<<i) == 0 {
				held = append(held, 90+i)
			}
		}
		held = append(held, marks(20, 8-len(held))...)
		for _, b := range held {
			_, e := w.c.Get(b)
			want(t, "Get", e, api.OK)
			want(t, "Pin", w.c.Pin(b), api.OK)
		}
		o := w.begin()
		for _, i := range []int{3, 1, 5, 0, 4, 2} {
			w.data(o, 90+i, 10+i)
		}
		w.write(o, 50, 20)
		w.write(o, 53, 21)
		w.free(o, 51, 54, 62)
		put := 0
		for put < 6 && missing&(1<<put) == 0 {
			put++
		}
		if put == 6 {
			w.end(o)
			w.wantDirty(marks(90, 6)...)
			w.wantBlocks(50, 53)
			w.wantKept(51, 52, 54, 62)
			continue
		}
		s := w.snapped()
		want(t, "End", o.End(), api.ErrFull)
		s.dirty = marks(90, put)
		for i, b := range s.held {
			if b >= 90 && b < 90+put {
				s.lines[i] = w.block(10 + b - 90)
			}
		}
		s.kept = []int{52}
		w.wantSame("an End whose data could not be put", s)
		w.wantMark(w.g, 50, 1)
		w.wantMark(w.g, 51, 2)
		w.wrote(51, 3)
		if t.Failed() {
			t.Fatal("missing:", missing)
		}
	}
}

// TestEndPutDead: P11.4, the device dies where a dirty block makes room for the operation's data, at each of them; also behind a Commit within the same End.
func TestEndPutDead(t *testing.T) {
	p := planned(t, 64, 100, 10, 8)
	for _, commits := range []bool{false, true} {
		for fuse := range 6 {
			// The picks let the blocks of data go, and 61 stay.
			w := newWorld(t, p, 2, 1, 1, 1)
			w.wantRead(w.g, 61, before(p, 61))
			w.wrote(50, marks(1, 5)...)
			w.freed(60)
			o := w.begin()
			w.data(o, 93, 13)
			w.data(o, 90, 10)
			w.data(o, 92, 12)
			w.data(o, 91, 11)
			w.free(o, 50, 61, 93)
			w.data(o, 93, 14)
			w.write(o, 50, 30)
			if commits {
				w.write(o, 55, 31, 32, 33)
				// One descriptor, five blocks, two flushes and the header.
				fuse += 9
			}
			want(t, "Fuse", w.d.Fuse(fuse), api.OK)
			e := o.End()
			put := fuse
			if commits {
				put -= 9
			}
			if put >= 3 {
				// Of four blocks three make room for the next one.
				want(t, "End", e, api.OK)
				w.wantDirty(93)
				w.wantHeld(93)
				continue
			}
			want(t, "End", e, api.ErrDead)
			w.wantDirty(90 + put)
			w.wantHeld(61, 90+put)
			w.wantMark(w.g, 90+put, 10+put)
			if commits {
				w.wantBlocks()
				w.wantKept(marks(50, 5)...)
			} else {
				w.wantBlocks(marks(50, 5)...)
				w.wantKept(60)
			}
			for i := range 5 {
				w.wantMark(w.g, 50+i, 1+i)
			}
			want(t, "Crash", w.d.Crash(marks(1, 9)), api.OK)
			for i := range 4 {
				wanted := before(p, 90+i)
				if i < put {
					wanted = w.block(10 + i)
				}
				if got, _ := w.d.Read(90 + i); !bytes.Equal(got, wanted) {
					t.Errorf("block %d on the device: %v", 90+i, got)
				}
			}
			if t.Failed() {
				t.Fatal("fuse:", fuse, commits)
			}
		}
	}
}

// TestEndDrops: P11.4, freed blocks are dropped from the cache, clean or dirty ones; one that is pinned, or not held, does not matter; and from the group.
func TestEndDrops(t *testing.T) {
	p := planned(t, 64, 100, 10, 30)
	w := newWorld(t, p, 8)
	w.hasData(50, 1)
	w.wrote(60, 4, 5, 6)
	w.commit()
	w.wrote(60, 7, 8)
	w.hasData(51, 2, 3)
	w.wantRead(w.g, 53, before(p, 53))
	want(t, "Pin", w.c.Pin(52), api.OK)
	w.freed(50, 51, 52, 53, 54, 60, 62, 70)
	w.wantHeld(52)
	w.wantDirty(52)
	w.wantBlocks(61)
	w.wantKept(50, 51, 52, 53, 54, 60, 61, 62, 70)
	w.wantMark(w.g, 50, 1)
	w.wantRead(w.g, 51, before(p, 51))
	w.wantMark(w.g, 52, 3)
	// What was pending is pending still.
	w.wantMark(w.g, 60, 4)
	w.wantMark(w.g, 61, 8)
	w.wantMark(w.g, 62, 6)
	w.commit()
	w.wantKept(60, 61, 62)
	w.settle()
	w.wantKept()
	w.wantMark(w.g, 60, 4)
	w.wantMark(w.g, 61, 8)
}

// steps are writes and flushes of a device, counted by what they leave: how many, and which blocks wait.
func steps(d *device.Device, from int) string {
	return fmt.Sprint(d.Writes()-from, d.Waiting())
}

// TestCommitNone: P11.5, without blocks: all dirty blocks are written, and the device is flushed, no more and no less, every time.
func TestCommitNone(t *testing.T) {
	p := planned(t, 64, 100, 10, 8)
	w := newWorld(t, p, 8)
	h := w.l.Header()
	for i := range 4 {
		from := w.d.Writes()
		if i > 0 {
			w.hasData(60, marks(10*i, i)...)
			w.freed(70 + i)
			w.wantKept(70 + i)
		}
		w.commit()
		if got := steps(w.d, from); got != fmt.Sprint(i+1, []int{}) {
			t.Errorf("a Commit without blocks, %d dirty: %s", i, got)
		}
		w.wantDirty()
		w.wantKept()
	}
	want(t, "Crash", w.d.Crash(nil), api.OK)
	for i := range 3 {
		if got, _ := w.d.Read(60 + i); !bytes.Equal(got, w.block(30+i)) {
			t.Errorf("block %d has not arrived", 60+i)
		}
	}
	if w.l.Header() != h {
		t.Error("the log was written:", w.l.Header())
	}
	// What is pending stays so.
	w.wrote(50, 1)
	w.commit()
	w.commit()
	w.wantPending(50)
	for fuse := range 3 {
		w.hasData(60, 40+fuse, 50+fuse)
		w.freed(80)
		want(t, "Fuse", w.d.Fuse(fuse), api.OK)
		want(t, "Commit", w.g.Commit(), api.ErrDead)
		w.wantKept(50, 80)
		want(t, "Crash", w.d.Crash(nil), api.OK)
		w.commit()
		w.wantKept(50)
	}
}

// TestCommitFits: P11.5, blocks that fit into the log's Room: data first, then the log's blocks, rising, whatever order they were written in; then the group has nothing.
func TestCommitFits(t *testing.T) {
	p := planned(t, 64, 100, 10, 8)
	w := newWorld(t, p, 8)
	o := w.begin()
	for i, b := range []int{60, p.IBits, 99, 51} {
		w.write(o, b, 1+i)
	}
	w.data(o, 70, 8, 9)
	w.free(o, 80)
	w.end(o)
	from := w.d.Writes()
	w.commit()
	if got := steps(w.d, from); got != fmt.Sprint(2+5+3, []int{}) {
		t.Error("a Commit of four blocks and two of data:", got)
	}
	if w.l.Header() != (api.Header{Seq: 2, Used: 5}) {
		t.Error("Header:", w.l.Header())
	}
	// The log's blocks, in their order.
	desc, _ := codec.Desc(1, []int{p.IBits, 51, 60, 99}, 64)
	for i, wanted := range [][]byte{desc, w.block(2), w.block(4), w.block(1), w.block(3)} {
		if got, _ := w.d.Read(p.LogAt + i); !bytes.Equal(got, wanted) {
			t.Errorf("block %d of the log: %v, should be %v", i, got, wanted)
		}
	}
	w.wantBlocks()
	w.wantDirty()
	w.wantKept(p.IBits, 51, 60, 99)
	w.wantPending(p.IBits, 51, 60, 99)
	if got, _ := w.d.Read(51); !bytes.Equal(got, before(p, 51)) {
		t.Error("a block is in its place")
	}
	// Just as much room as there is: nothing is applied.
	w.wrote(61, 10, 11)
	w.commit()
	if w.l.Header() != (api.Header{Seq: 3, Used: 8}) {
		t.Error("Header:", w.l.Header())
	}
	w.wantPending(p.IBits, 51, 60, 61, 62, 99)
}

// TestCommitApplies: P11.5, blocks that don't fit into the log's Room: it is applied, the cache is told of all that was pending, and the new ones alone are pending.
func TestCommitApplies(t *testing.T) {
	p := planned(t, 64, 100, 10, 8)
	w := newWorld(t, p, 8)
	// The cache holds what stood in three of them: one is dirty, by others.
	w.wantRead(w.g, 50, before(p, 50))
	w.wantRead(w.g, 51, before(p, 51))
	w.wrote(50, 1, 2, 3, 4)
	w.commit()
	w.wrote(51, 12)
	w.commit()
	w.wantPending(50, 51, 52, 53)
	want(t, "Put", w.c.Put(52, w.block(99)), api.OK)
	w.wrote(53, 14)
	w.freed(90)
	from := w.d.Writes()
	w.commit()
	// A dirty block, four that are applied, a descriptor and a block, and twice two flushes and a header.
	if got := steps(w.d, from); got != fmt.Sprint(1+4+3+2+3, []int{}) {
		t.Error("a Commit that applies:", got)
	}
	if w.l.Header() != (api.Header{Seq: 4, Tail: 7, Used: 2}) {
		t.Error("Header:", w.l.Header())
	}
	w.wantPending(53)
	w.wantKept(53)
	w.wantBlocks()
	w.wantDirty()
	for b, mark := range map[int]int{50: 1, 51: 12, 52: 3, 53: 14} {
		w.wantMark(w.g, b, mark)
	}
	w.wantHeld(50, 51, 52)
	for i, mark := range []int{1, 12, 3, 4} {
		if got, _ := w.d.Read(50 + i); !bytes.Equal(got, w.block(mark)) {
			t.Errorf("block %d on the device: %v", 50+i, got)
		}
	}
}

// TestCommitDead: P11.5, a Commit that is cut off anywhere answers that, and the group has what it had.
func TestCommitDead(t *testing.T) {
	p := planned(t, 64, 100, 10, 8)
	for _, first := range []int{0, 2, 3, 6} {
		for fuse := 0; ; fuse++ {
			w := newWorld(t, p, 8)
			if first > 0 {
				w.wrote(40, marks(1, first)...)
				w.commit()
			}
			w.hasData(80, 3, 4)
			w.wrote(50, 5, 6, 7)
			w.freed(52, 90)
			want(t, "Fuse", w.d.Fuse(fuse), api.OK)
			e := w.g.Commit()
			if e == api.OK {
				wanted := 2 + 3 + 3
				if first > 4 {
					wanted += first + 3
				}
				if fuse != wanted {
					t.Errorf("a Commit of two blocks, two of data, behind %d: %d steps", first, fuse)
				}
				break
			}
			want(t, "Commit", e, api.ErrDead)
			w.wantBlocks(50, 51)
			w.wantMark(w.g, 50, 5)
			w.wantMark(w.g, 51, 6)
			kept := append(pendingBlocks(w.l), 52, 90)
			slices.Sort(kept)
			w.wantKept(kept...)
			want(t, "Commit", w.g.Commit(), api.ErrDead)
			want(t, "Settle", w.g.Settle(), api.ErrDead)
			want(t, "Out", w.g.Out(nil), api.ErrDead)
			w.wantBlocks(50, 51)
			o := w.begin()
			w.wantMark(o, 51, 6)
			want(t, "Commit", w.g.Commit(), api.ErrBusy)
			want(t, "Settle", w.g.Settle(), api.ErrBusy)
			if t.Failed() {
				t.Fatal("fuse:", fuse, first)
			}
		}
	}
}

// TestBusy: P11.5, P11.6, Commit and Settle while an operation is open are ErrBusy and do nothing, neither to the group nor to the operation; Out, Read, Blocks and Kept answer.
func TestBusy(t *testing.T) {
	p := planned(t, 64, 100, 10, 8)
	w := newWorld(t, p, 8)
	w.wrote(50, 1)
	w.commit()
	w.hasData(60, 2, 3)
	w.wrote(51, 4)
	w.freed(70)
	o := w.begin()
	w.write(o, 52, 5)
	w.data(o, 62, 6)
	w.free(o, 71)
	s := w.snapped()
	for range 2 {
		want(t, "Commit", w.g.Commit(), api.ErrBusy)
		want(t, "Settle", w.g.Settle(), api.ErrBusy)
	}
	w.wantSame("a call that found an operation open", s)
	w.wantKept(50, 70, 71)
	w.wantBlocks(51)
	w.wantMark(o, 52, 5)
	w.wantMark(o, 62, 6)
	want(t, "Out", w.g.Out([]int{60, 62}), api.OK)
	w.wantDirty(61)
	w.wantMark(o, 52, 5)
	w.end(o)
	w.wantBlocks(51, 52)
	w.wantDirty(61, 62)
	w.settle()
	w.wantKept()
}

// TestSettle: P11.6, the group's blocks and all that was pending stand in their places, the cache is told, and nothing is kept.
func TestSettle(t *testing.T) {
	p := planned(t, 64, 100, 10, 8)
	w := newWorld(t, p, 8)
	from := w.d.Writes()
	w.settle()
	if got := steps(w.d, from); got != fmt.Sprint(1, []int{}) {
		t.Error("Settle of nothing:", got)
	}
	for _, b := range []int{50, 51, 52} {
		w.wantRead(w.g, b, before(p, b))
	}
	w.wrote(50, 1, 2)
	w.commit()
	w.wrote(51, 3)
	w.hasData(60, 4)
	w.freed(70)
	from = w.d.Writes()
	w.settle()
	// The data, two of the log and three, two that are applied and three.
	if got := steps(w.d, from); got != fmt.Sprint(1+2+3+2+3, []int{}) {
		t.Error("Settle:", got)
	}
	w.wantBlocks()
	w.wantPending()
	w.wantKept()
	w.wantDirty()
	for b, mark := range map[int]int{50: 1, 51: 3, 60: 4} {
		w.wantMark(w.g, b, mark)
		if got, _ := w.d.Read(b); !bytes.Equal(got, w.block(mark)) {
			t.Errorf("block %d is not in its place", b)
		}
	}
	if w.l.Room() != p.Log {
		t.Error("Room:", w.l.Room())
	}
	want(t, "Crash", w.d.Crash(nil), api.OK)
	again := mounted(t, w.d, p, 2)
	again.wantMark(again.g, 51, 3)
	again.wantMark(again.g, 60, 4)
	again.wantKept()
}

// TestSettleDead: P11.6, Settle that is cut off anywhere: behind the Commit within it the group has nothing, and what was pending is pending till the log is applied.
func TestSettleDead(t *testing.T) {
	p := planned(t, 64, 100, 10, 8)
	for fuse := 0; ; fuse++ {
		w := newWorld(t, p, 8)
		w.wantRead(w.g, 50, before(p, 50))
		w.wrote(50, 1, 2)
		w.hasData(60, 3)
		w.freed(70)
		want(t, "Fuse", w.d.Fuse(fuse), api.OK)
		e := w.g.Settle()
		if e == api.OK {
			if fuse != 1+3+3+2+3 {
				t.Error("Settle is done behind a fuse of", fuse)
			}
			return
		}
		want(t, "Settle", e, api.ErrDead)
		if fuse < 1+3+3 {
			w.wantBlocks(50, 51)
			w.wantKept(70)
		} else {
			w.wantBlocks()
			w.wantKept(50, 51)
		}
		w.wantMark(w.g, 50, 1)
		w.wantMark(w.g, 51, 2)
		// The cache is not told of what is not in its place.
		if got, e := w.c.Get(50); e != api.OK || !bytes.Equal(got, before(p, 50)) {
			t.Errorf("fuse %d: the cache's block: %v, %d", fuse, got, e)
		}
	}
}

// TestOut: P11.6, the blocks of the list that are dirty arrive, the others stay; a list with a block that is none is refused whole.
func TestOut(t *testing.T) {
	p := planned(t, 64, 100, 10, 8)
	for _, x := range []struct {
		list  []int
		steps int
		dirty []int
		e     api.Errno
	}{
		{nil, 1, []int{50, 51, 52}, api.OK}, {[]int{}, 1, []int{50, 51, 52}, api.OK}, {[]int{51}, 2, []int{50, 52}, api.OK}, {[]int{52, 50}, 3, []int{51}, api.OK}, {[]int{52, 51, 52, 50, 51}, 4, nil, api.OK},
		{[]int{60, 53, 0, 1, 99}, 1, []int{50, 51, 52}, api.OK}, {[]int{60, 52, 61}, 2, []int{50, 51}, api.OK},
		{[]int{51, 100}, 0, []int{50, 51, 52}, api.ErrRange}, {[]int{-1, 51}, 0, []int{50, 51, 52}, api.ErrRange}, {[]int{math.MinInt}, 0, []int{50, 51, 52}, api.ErrRange}, {[]int{50, math.MaxInt}, 0, []int{50, 51, 52}, api.ErrRange},
	} {
		w := newWorld(t, p, 8)
		w.hasData(50, 1, 2, 3)
		w.wrote(60, 4)
		w.wantRead(w.g, 53, before(p, 53))
		from := w.d.Writes()
		want(t, "Out", w.g.Out(x.list), x.e)
		if got := steps(w.d, from); got != fmt.Sprint(x.steps, []int{}) {
			t.Errorf("Out(%v): %s", x.list, got)
		}
		w.wantDirty(x.dirty...)
		w.wantBlocks(60)
		w.wantPending()
		want(t, "Crash", w.d.Crash(nil), api.OK)
		for i := range 3 {
			wanted := w.block(1 + i)
			if slices.Contains(x.dirty, 50+i) {
				wanted = before(p, 50+i)
			}
			if got, _ := w.d.Read(50 + i); !bytes.Equal(got, wanted) {
				t.Errorf("Out(%v): block %d on the device: %v", x.list, 50+i, got)
			}
		}
	}
}

// TestOutDead: P11.6 with R2, Out that is cut off, and of a list that is refused on a dead device.
func TestOutDead(t *testing.T) {
	p := planned(t, 64, 100, 10, 8)
	for fuse := range 3 {
		w := newWorld(t, p, 8)
		w.hasData(50, 1, 2)
		want(t, "Fuse", w.d.Fuse(fuse), api.OK)
		want(t, "Out", w.g.Out([]int{51, 50}), api.ErrDead)
		w.wantDirty([]int{50, 51}[min(fuse, 2):]...)
		want(t, "Out", w.g.Out([]int{100}), api.ErrRange)
		want(t, "Out", w.g.Out(nil), api.ErrDead)
		want(t, "Crash", w.d.Crash(nil), api.OK)
		want(t, "Out", w.g.Out([]int{51, 50}), api.OK)
		w.wantDirty()
	}
}

// TestKept: P11.6, a freed block from Free to behind the Commit, whatever comes between; one that is pending, from Commit to where the log is applied; numbers that are no blocks.
func TestKept(t *testing.T) {
	p := planned(t, 64, 100, 10, 8)
	w := newWorld(t, p, 8)
	o := w.begin()
	w.free(o, 60, p.Data, 99)
	w.wantKept(p.Data, 60, 99)
	w.write(o, 60, 1)
	w.data(o, 99, 2)
	w.wantKept(p.Data)
	w.free(o, 60)
	w.wantKept(p.Data, 60)
	w.end(o)
	w.wantKept(p.Data, 60)
	// Another operation that writes it does not undo what has ended; nor does one that is given up, or refused.
	w.wrote(60, 3)
	w.hasData(p.Data, 4)
	o = w.begin()
	w.write(o, 60, 5)
	w.free(o, 61)
	want(t, "Free", o.Free(p.Data-1), api.ErrRange)
	want(t, "Free", o.Free(100), api.ErrRange)
	w.wantKept(p.Data, 60, 61)
	want(t, "Abort", o.Abort(), api.OK)
	w.wantKept(p.Data, 60)
	w.wantBlocks(60)
	w.commit()
	// It is pending now, and no longer kept for being freed.
	w.wantKept(60)
	w.commit()
	w.wantKept(60)
	w.freed(60)
	w.wantKept(60)
	w.commit()
	w.wantKept(60)
	w.settle()
	w.wantKept()
	// A Commit that has no room applies: what was pending is kept no longer.
	w.wrote(60, marks(1, 5)...)
	w.commit()
	w.wrote(70, marks(6, 4)...)
	w.wantKept(marks(60, 5)...)
	w.commit()
	w.wantKept(marks(70, 4)...)
	// Metadata that is no data is kept by the same words.
	w.wrote(p.IBits, 1)
	w.settle()
	w.wrote(p.IBits, 2)
	w.wantKept()
	w.commit()
	w.wantKept(p.IBits)
	for _, b := range append(slices.Clone(far), -1, p.Blocks) {
		if w.g.Kept(b) {
			t.Errorf("Kept(%d)", b)
		}
	}
}

// TestBothWays: P11.4, P11.5, a block that operations write by Write and by Data: the chapter's words say who is read, and what stands where.
func TestBothWays(t *testing.T) {
	p := planned(t, 64, 100, 10, 8)
	// Written, then as data: the group's is read, the data is dirty beneath it.
	w := newWorld(t, p, 8)
	w.wrote(50, 1)
	w.hasData(50, 2)
	w.wantMark(w.g, 50, 1)
	w.wantBlocks(50)
	w.wantDirty(50)
	w.commit()
	w.wantMark(w.g, 50, 1)
	if got, _ := w.d.Read(50); !bytes.Equal(got, w.block(2)) {
		t.Error("the data is not on the device")
	}
	w.settle()
	w.wantMark(w.g, 50, 1)
	// As data, then written.
	w = newWorld(t, p, 8)
	w.hasData(50, 2)
	w.wrote(50, 1)
	w.wantMark(w.g, 50, 1)
	w.wantDirty(50)
	w.freed(50)
	w.wantRead(w.g, 50, before(p, 50))
	w.wantDirty()
	w.wantBlocks()
	// Data of a block that is pending: it is behind the log.
	w = newWorld(t, p, 8)
	w.wrote(50, 1)
	w.commit()
	w.hasData(50, 2)
	w.wantMark(w.g, 50, 1)
	w.settle()
	w.wantMark(w.g, 50, 1)
	if got, _ := w.d.Read(50); !bytes.Equal(got, w.block(1)) {
		t.Error("what was pending is not on the device")
	}
}

// TestReuse: what the kept blocks are for: a block that goes from the log to data and back, each time behind the Commit or the Settle that lets it go, is what was written last.
func TestReuse(t *testing.T) {
	p := planned(t, 64, 100, 10, 8)
	w := newWorld(t, p, 2, 1, 0, 1)
	for i := range 12 {
		w.wrote(50, 100+i)
		w.freed(60)
		w.commit()
		w.wantMark(w.g, 50, 100+i)
		w.hasData(60, 200+i)
		w.freed(50)
		w.settle()
		if w.g.Kept(50) || w.g.Kept(60) {
			t.Fatal("kept behind Settle")
		}
		w.hasData(50, 300+i)
		w.wantMark(w.g, 50, 300+i)
		w.freed(60)
		w.commit()
		w.wrote(60, 400+i)
		w.wantMark(w.g, 60, 400+i)
		w.settle()
		w.wantMark(w.g, 60, 400+i)
		w.wantMark(w.g, 50, 300+i)
		w.freed(50, 60)
		w.commit()
	}
}

// TestGreatest: the greatest log and device, filled with operations as large as they may be.
func TestGreatest(t *testing.T) {
	p := planned(t, 256, 4096, 1024, 512)
	n := mostFor(p)
	w := newWorld(t, p, api.MaxCache)
	for i := range 4 {
		w.wrote(p.IBits+i*n, marks(1000*i+1, n)...)
		w.hasData(p.Data+4*n+i*300, marks(1000*i+601, 300)...)
	}
	w.wantPending(marks(p.IBits+2*n, n)...)
	w.settle()
	for i := range 4 {
		for j := range n {
			w.wantMark(w.g, p.IBits+i*n+j, 1000*i+1+j)
		}
		for j := range 300 {
			w.wantMark(w.g, p.Data+4*n+i*300+j, 1000*i+601+j)
		}
	}
	o := w.begin()
	for b := p.Data; b < p.Blocks; b++ {
		w.free(o, b)
	}
	w.end(o)
	w.wantKept(marks(p.Data, p.Blocks-p.Data)...)
	w.commit()
	w.wantKept()
	if got, e := wal.Need(p, n); got != p.Log || e != api.OK {
		t.Error("Need:", got, e)
	}
}
