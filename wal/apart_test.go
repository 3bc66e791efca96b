package wal_test

import (
	"bytes"
	"slices"
	"testing"

	"skerry/api"
	"skerry/wal"
)

// handed is a list of writes with others in front of and behind it, and bytes in front of and behind each one's data: no call may read or change those.
type handed struct {
	all, list, kept []api.Write
	bytes, keptAll  [][]byte
}

// hand answers such a list of the writes; around it stand others that would be refused, or taken for it.
func hand(p api.Plan, fill api.Write, list []api.Write) *handed {
	h := &handed{all: slices.Repeat([]api.Write{fill}, len(list)+20)}
	h.list = h.all[10 : 10+len(list)]
	for i, w := range list {
		all := bytes.Repeat([]byte{0xa5}, p.Block+200)
		copy(all[100:], w.Data)
		h.list[i] = api.Write{Block: w.Block, Data: all[100 : 100+len(w.Data)]}
		h.bytes, h.keptAll = append(h.bytes, all), append(h.keptAll, bytes.Clone(all))
	}
	h.kept = slices.Clone(h.all)
	return h
}

// check holds all that was handed in against what it was.
func (h *handed) check(t *testing.T, call string) {
	t.Helper()
	if !equal(h.all, h.kept) {
		t.Errorf("%s changed the list that it was handed", call)
	}
	if !slices.EqualFunc(h.bytes, h.keptAll, bytes.Equal) {
		t.Errorf("%s changed the bytes that it was handed", call)
	}
}

// spoil writes over all that was handed in.
func (h *handed) spoil() {
	for _, b := range h.bytes {
		turnOver(b)
	}
	for i := range h.all {
		h.all[i] = api.Write{Block: -7, Data: []byte{1}}
	}
}

// turnOver writes over bytes and the room behind them.
func turnOver(b []byte) {
	b = b[:cap(b)]
	for i := range b {
		b[i] = ^b[i]
	}
}

// turnList writes over a list, the bytes in it, and the room behind all of them.
func turnList(list []api.Write) {
	for _, w := range list {
		turnOver(w.Data)
	}
	list = list[:cap(list)]
	for i := range list {
		list[i] = api.Write{Block: -5, Data: []byte{2}}
	}
}

// TestListsApart: R4, a list that is committed is as it was, its order too, the bytes in it and the room around all of them; what stands there does not matter; and it is kept by its values alone.
func TestListsApart(t *testing.T) {
	p := planned(t, 64, 160, 4, 40)
	for _, fill := range []api.Write{{}, {Block: -1, Data: []byte{1}}, {Block: 100, Data: marked(64, 9)}, {Block: 150, Data: marked(64, 9)}} {
		for _, n := range []int{1, 2, 27, 28, 33} {
			d := fresh(t, p)
			l := made(t, d, p)
			blocks := row(p, n)
			slices.Reverse(blocks)
			list := writes(p, 1, blocks...)
			one := hand(p, fill, list)
			want(t, "Commit", l.Commit(one.list), api.OK)
			one.check(t, "Commit")
			one.spoil()
			slices.Reverse(list)
			h := l.Header()
			wantLog(t, l, p, h, list)
			wantLog(t, made(t, d, p), p, h, list)
			want(t, "Apply", l.Apply(), api.OK)
			for _, w := range list {
				wantRead(t, d, w.Block, w.Data)
			}
			// Nothing of what was handed in is written by later calls either.
			kept := slices.Clone(one.all)
			want(t, "Commit", l.Commit(writes(p, 300, blocks...)), api.OK)
			if !equal(one.all, kept) {
				t.Error("a later call changed what was handed in")
			}
		}
	}
	// An empty list with something behind it is empty.
	l := made(t, fresh(t, p), p)
	one := hand(p, api.Write{Block: 100, Data: marked(64, 9)}, nil)
	want(t, "Commit", l.Commit(one.list), api.OK)
	one.check(t, "Commit")
	wantLog(t, l, p, api.Header{Seq: 1}, nil)
}

// TestRefusedApart: R4, lists that are refused, or whose Commit dies, are as they were too.
func TestRefusedApart(t *testing.T) {
	p := planned(t, 64, 60, 6, 8)
	fill := api.Write{Block: 20, Data: marked(64, 3)}
	for _, x := range []struct {
		list   []api.Write
		wanted api.Errno
	}{
		{append(writes(p, 1, 30, 25), api.Write{Block: 20, Data: marked(64, 1)[1:]}), api.ErrArg},
		{writes(p, 1, 30, 25, 60), api.ErrRange},
		{writes(p, 1, 30, 25, 30), api.ErrValue},
		{writes(p, 1, 30, 25, 31, 24, 33, 19, 22, 50), api.ErrLarge},
		{writes(p, 1, 30, 25, 31), api.ErrDead},
	} {
		d := fresh(t, p)
		l := made(t, d, p)
		want(t, "Fuse", d.Fuse(3), api.OK)
		one := hand(p, fill, x.list)
		want(t, "Commit", l.Commit(one.list), x.wanted)
		one.check(t, "Commit")
		one.spoil()
		wantLog(t, l, p, api.Header{Seq: 1}, nil)
	}
}

// TestSharedBytes: R4, several writes of a list that share their bytes are several.
func TestSharedBytes(t *testing.T) {
	p := planned(t, 64, 60, 6, 8)
	d := fresh(t, p)
	l := made(t, d, p)
	data := marked(64, 1)
	want(t, "Commit", l.Commit([]api.Write{{Block: 20, Data: data}, {Block: 21, Data: data}}), api.OK)
	got := l.Pending()
	turnOver(got[0].Data)
	if !bytes.Equal(got[1].Data, marked(64, 1)) {
		t.Error("two blocks of an answer share their bytes")
	}
	wantLog(t, l, p, api.Header{Seq: 2, Used: 3}, []api.Write{{Block: 20, Data: marked(64, 1)}, {Block: 21, Data: marked(64, 1)}})
	// What was answered may be handed in, and written over.
	got = l.Pending()
	want(t, "Commit", l.Commit(got), api.OK)
	turnList(got)
	wantLog(t, l, p, api.Header{Seq: 3, Used: 6}, []api.Write{{Block: 20, Data: marked(64, 1)}, {Block: 21, Data: marked(64, 1)}})
}

// TestAnswersApart: R4, what was answered stays as it is when other answers are written over, the room behind them too, and so do the log and the device; a later call changes no earlier answer.
func TestAnswersApart(t *testing.T) {
	p := planned(t, 64, 60, 6, 12)
	q := newPair(t, p)
	var answers, kept [][]api.Write
	for i, x := range []call{
		{name: "Commit", list: writes(p, 1, 30, 20)}, {name: "Open"}, {name: "Commit", list: writes(p, 10, 20, 40)}, {name: "Commit", list: writes(p, 20, 20)},
		{name: "Commit", list: writes(p, 30, 21, 22, 20, 23)}, {name: "Open"}, {name: "Apply"}, {name: "Commit", list: writes(p, 40, 59)}, {name: "Fuse", n: 1}, {name: "Apply"},
		{name: "Crash", picks: []int{1}}, {name: "Open"}, {name: "Commit", list: writes(p, 50, 20, 21)},
	} {
		if got, wanted := q.run(x); got != wanted {
			t.Fatal("call:", i, got, wanted)
		}
		one, two := q.l.Pending(), q.l.Pending()
		for j, w := range two {
			// The room behind one block's bytes is no other's.
			two[j].Data = append(w.Data, 1)[:len(w.Data)]
		}
		answers, kept = append(answers, two), append(kept, nil)
		for _, w := range two {
			kept[i] = append(kept[i], api.Write{Block: w.Block, Data: bytes.Clone(w.Data)})
		}
		_ = append(one, api.Write{Block: 1})
		turnList(one)
		q.same(t, i)
	}
	for i := range answers {
		if !equal(answers[i], kept[i]) {
			t.Error("an answer was changed later:", i)
		}
		turnList(answers[i])
	}
	q.same(t, "all answers are written over")
	for _, x := range []call{{name: "Apply"}, {name: "Commit", list: writes(p, 60, 33)}, {name: "Open"}} {
		if got, wanted := q.run(x); got != wanted {
			t.Fatal(x.name, got, wanted)
		}
		q.same(t, "all answers are written over")
	}
}

// TestLogApart: R4 and R5, a log keeps what it has read and written: what another does to the device's blocks, or to what the device answered, does not change what is pending.
func TestLogApart(t *testing.T) {
	p := planned(t, 64, 60, 6, 8)
	d := holding(t, p, twoParts().h, twoParts().ring...)
	l := made(t, d, p)
	for b := range p.Blocks {
		data, _ := d.Read(b)
		turnOver(data)
		want(t, "Load", d.Load(b, marked(64, b)), api.OK)
	}
	wantLog(t, l, p, twoParts().h, twoPending())
	want(t, "Apply", l.Apply(), api.OK)
	for _, w := range twoPending() {
		wantRead(t, d, w.Block, w.Data)
	}
	wantRead(t, d, 1, headerBytes(api.Header{Seq: 9, Tail: 3}, 64))
	for _, b := range []int{0, 2, 9, 10, 22, 58} {
		wantRead(t, d, b, marked(64, b))
	}
	// A plan is handed in by its value.
	q := p
	l, e := wal.Open(d, q)
	want(t, "Open", e, api.OK)
	q.Log, q.Block, q.LogAt = 4, 128, 30
	want(t, "Commit", l.Commit(writes(p, 1, row(p, 7)...)), api.OK)
	wantLog(t, l, p, api.Header{Seq: 10, Tail: 3, Used: 8}, writes(p, 1, row(p, 7)...))
}
