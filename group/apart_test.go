package group_test

import (
	"bytes"
	"slices"
	"testing"

	"skerry/api"
	"skerry/group"
)

// handed is bytes with others in front of and behind them, which no call may read or change.
type handed struct {
	all, kept, data []byte
}

func hand(data []byte, fill byte) *handed {
	h := &handed{all: bytes.Repeat([]byte{fill}, len(data)+200)}
	h.data = h.all[100 : 100+len(data)]
	copy(h.data, data)
	h.kept = bytes.Clone(h.all)
	return h
}

func (h *handed) check(t *testing.T, call string) {
	t.Helper()
	if !bytes.Equal(h.all, h.kept) {
		t.Errorf("%s changed the bytes that it was handed", call)
	}
}

// turnOver writes over bytes and the room behind them.
func turnOver(b []byte) {
	b = b[:cap(b)]
	for i := range b {
		b[i] = ^b[i]
	}
}

// TestDataApart: R4, data that is handed in is neither changed nor kept, nor is the room around it, by the call itself or by any later one; what stands in that room does not matter.
func TestDataApart(t *testing.T) {
	p := planned(t, 64, 100, 10, 8)
	for _, fill := range []byte{0, 1, 0xff} {
		// Spoiled behind which of the calls.
		for when := range 5 {
			w := newWorld(t, p, 2)
			o := w.begin()
			one, two := hand(w.block(1), fill), hand(w.block(2), fill)
			all := []*handed{one, two}
			at := func(step int, call string) {
				t.Helper()
				for _, h := range all {
					if when >= step {
						h.check(t, call)
					}
					if when == step {
						turnOver(h.all)
						h.kept = bytes.Clone(h.all)
					}
				}
			}
			ask := func(r reader) {
				t.Helper()
				w.wantMark(r, 50, 1)
				w.wantMark(r, 60, 2)
			}
			want(t, "Write", o.Write(50, one.data), api.OK)
			want(t, "Data", o.Data(60, two.data), api.OK)
			at(0, "Write or Data")
			ask(o)
			w.end(o)
			at(1, "End")
			ask(w.g)
			w.wantRead(w.g, 70, before(p, 70))
			w.commit()
			at(2, "Commit")
			ask(w.g)
			w.settle()
			at(3, "Settle")
			ask(w.g)
			w.wrote(50, 3)
			w.hasData(60, 4)
			w.settle()
			at(4, "later calls")
			w.wantMark(w.g, 50, 3)
			w.wantMark(w.g, 60, 4)
			one.check(t, "all calls")
			two.check(t, "all calls")
			if t.Failed() {
				t.Fatal("spoiled at", when)
			}
		}
	}
}

// TestRefusedApart: R4, data that is refused is as it was too; the room behind data that is too short does not make it longer.
func TestRefusedApart(t *testing.T) {
	p := planned(t, 64, 100, 10, 8)
	w := newWorld(t, p, 2)
	o := w.begin()
	for _, n := range []int{0, 1, 32, 63, 64, 65, 128} {
		h := hand(marked(max(n, 2), 1)[:n], 7)
		for _, b := range []int{-1, p.IBits - 1, p.Blocks} {
			want(t, "Write", o.Write(b, h.data), api.ErrRange)
			want(t, "Data", o.Data(b, h.data), api.ErrRange)
		}
		if n != 64 {
			want(t, "Write", o.Write(50, h.data), api.ErrArg)
			want(t, "Data", o.Data(50, h.data), api.ErrArg)
		}
		h.check(t, "a refused call")
	}
	w.wantRead(o, 50, before(p, 50))
	w.end(o)
	// An operation that is over, or too large, has kept nothing either.
	o = w.begin()
	var all []*handed
	for i := range 8 {
		all = append(all, hand(w.block(i), 7))
		want(t, "Write", o.Write(50+i, all[i].data), api.OK)
	}
	want(t, "End", o.End(), api.ErrLarge)
	for _, h := range all {
		h.check(t, "a refused End")
	}
}

// TestSharedBytes: R4, several blocks that are handed the same bytes are several; answers may be handed in again.
func TestSharedBytes(t *testing.T) {
	p := planned(t, 64, 100, 10, 8)
	w := newWorld(t, p, 4)
	o := w.begin()
	data := w.block(1)
	for _, b := range []int{50, 51} {
		want(t, "Write", o.Write(b, data), api.OK)
		want(t, "Data", o.Data(b+10, data), api.OK)
	}
	for _, x := range []func(){func() {}, func() { w.end(o) }, w.commit, w.settle} {
		x()
		var r reader = w.g
		if _, e := o.Read(50); e == api.OK {
			r = o
		}
		for _, b := range []int{50, 51, 60, 61} {
			got, _ := r.Read(b)
			turnOver(got)
			for _, other := range []int{50, 51, 60, 61} {
				w.wantMark(r, other, 1)
			}
		}
	}
	o = w.begin()
	got, _ := o.Read(50)
	want(t, "Write", o.Write(52, got), api.OK)
	again, _ := o.Read(52)
	want(t, "Data", o.Data(62, again), api.OK)
	turnOver(got)
	turnOver(again)
	w.end(o)
	for _, b := range []int{50, 52, 62} {
		w.wantMark(w.g, b, 1)
	}
}

// TestReadApart: R4, what Read answers is new memory, the room behind it too, whoever has the block: the operation, the group, the log, the cache or the device alone.
func TestReadApart(t *testing.T) {
	p := planned(t, 64, 100, 10, 8)
	w := newWorld(t, p, 4)
	w.wrote(52, 3)
	w.commit()
	w.wrote(51, 2)
	w.hasData(53, 4)
	o := w.begin()
	w.write(o, 50, 1)
	w.data(o, 54, 5)
	wanted := func(b int) []byte {
		if b >= 55 {
			return before(p, b)
		}
		return w.block(b - 49)
	}
	var answers, kept [][]byte
	for _, b := range []int{50, 51, 52, 53, 54, 55, 56, 50, 51, 52, 53, 54, 55} {
		for _, r := range []reader{o, w.g} {
			if r == reader(w.g) && (b == 50 || b == 54) {
				continue
			}
			one, _ := r.Read(b)
			two, _ := r.Read(b)
			_ = append(one, 1, 2, 3)
			turnOver(one)
			if !bytes.Equal(two, wanted(b)) {
				t.Errorf("two answers of Read(%d) share memory", b)
			}
			w.wantRead(r, b, wanted(b))
			answers, kept = append(answers, two), append(kept, bytes.Clone(two))
		}
	}
	w.end(o)
	w.settle()
	o = w.begin()
	for b := 50; b < 57; b++ {
		w.write(o, b, 20+b)
	}
	w.end(o)
	w.settle()
	for i := range answers {
		if !bytes.Equal(answers[i], kept[i]) {
			t.Error("an answer was changed later:", i)
		}
		turnOver(answers[i])
	}
	for b := 50; b < 57; b++ {
		w.wantMark(w.g, b, 20+b)
		if got, _ := w.d.Read(b); !bytes.Equal(got, w.block(20+b)) {
			t.Errorf("block %d on the device: %v", b, got)
		}
	}
}

// TestListsApart: R4, the list of Out is neither changed nor put in order, nor is the room around it read; what Blocks answers is new.
func TestListsApart(t *testing.T) {
	p := planned(t, 64, 100, 10, 8)
	for _, fill := range []int{-1, 0, 100, 63, 1 << 40} {
		w := newWorld(t, p, 8)
		w.hasData(60, 1, 2, 3, 4)
		all := slices.Repeat([]int{fill}, 30)
		copy(all[10:], []int{62, 60, 62, 90, 61})
		kept := slices.Clone(all)
		want(t, "Out", w.g.Out(all[10:15]), api.OK)
		w.wantDirty(63)
		want(t, "Out", w.g.Out(all[10:10]), api.OK)
		w.wantDirty(63)
		if !slices.Equal(all, kept) {
			t.Error("Out changed the list that it was handed")
		}
		all[12] = 100
		kept = slices.Clone(all)
		want(t, "Out", w.g.Out(all[10:15]), api.ErrRange)
		if !slices.Equal(all, kept) {
			t.Error("Out that was refused changed the list")
		}
		w.wrote(50, 5, 6, 7)
		one, two := w.g.Blocks(), w.g.Blocks()
		_ = append(one, 8, 9)
		one = one[:cap(one)]
		for i := range one {
			one[i] = -5
		}
		w.wantBlocks(50, 51, 52)
		w.freed(51)
		if !slices.Equal(two, []int{50, 51, 52}) {
			t.Error("an answer of Blocks was changed:", two)
		}
		two[0] = 77
		w.wantBlocks(50, 52)
		w.commit()
		w.wantPending(50, 52)
	}
}

// TestPlanApart: R4, a plan is handed in by its value.
func TestPlanApart(t *testing.T) {
	p := planned(t, 64, 100, 10, 8)
	w := newWorld(t, p, 4)
	q := p
	g, e := group.New(w.d, w.l, w.c, q)
	want(t, "New", e, api.OK)
	q.Blocks, q.Data, q.IBits, q.Block, q.Log = 2, 1, 0, 1, 4
	w.g = g
	w.wrote(p.IBits, marks(1, 7)...)
	w.wantBlocks(marks(p.IBits, 7)...)
	w.hasData(p.Data, 9)
	w.wantMark(g, p.Data, 9)
}
