package dir_test

import (
	"fmt"
	"slices"
	"testing"

	"skerry/api"
	"skerry/dir"
	"skerry/file"
	"skerry/group"
)

// fulls answers how many names directories have for which the next one asks for no block, one, two and three.
func fulls(p api.Plan) []int {
	per, pointers := p.Block/16, p.Block/2
	list := []int{0, 1, per - 1, per, 8 * per, 8*per + 1, 9 * per, (8 + pointers) * per, (8+pointers)*per + 1, (8 + 2*pointers) * per}
	return slices.DeleteFunc(list, func(n int) bool { return n > 1000 })
}

// TestNoSpace: P15.2, with R6: where an Insert asks for more blocks than can be taken, be it by one alone, it is ErrNoSpace, and nothing has changed, nor is anything noted; where all can be taken, it is done. Set asks for none, and a name that is there is ErrExists still.
func TestNoSpace(t *testing.T) {
	for _, p := range plans(t)[:4] {
		for _, n := range fulls(p) {
			w, o := founded(t, p, 5)
			w.lay(o, 2, pageOf(n))
			w.leave(o, 5)
			w.end(o)
			w.settle()
			told := map[api.Errno]int{}
			for left := range 5 {
				o := w.begin()
				w.leave(o, left)
				s := w.seen(o)
				g := pageOf(n)
				wanted := g.insert(p, "new", 7, left)
				e := dir.Insert(o, w.u, p, 2, "new", 7)
				want(t, "Insert", e, wanted)
				told[e]++
				if e != api.OK {
					w.wantSeen("an Insert without space", o, s)
				}
				w.wantPage(o, 2, g)
				_, now := blocks(p, len(g))
				_, was := blocks(p, n)
				if free := w.free(o); free != left-(now-was) {
					t.Errorf("%d blocks can be taken, should be %d", free, left-(now-was))
				}
				if n > 0 {
					want(t, "Insert", dir.Insert(o, w.u, p, 2, nameOf(0), 7), api.ErrExists)
					w.set(o, 2, nameOf(0), 8)
				}
				w.abort(o)
				if t.Failed() {
					t.Fatalf("%v: %d names, %d left", p, n, left)
				}
			}
			_, now := blocks(p, n)
			_, then := blocks(p, n+1)
			if told[api.ErrNoSpace] != then-now {
				t.Errorf("%v: %d names: %v", p, n, told)
			}
		}
	}
}

// TestNoSpaceNothing: R6: an Insert for which there is no space has noted nothing.
func TestNoSpaceNothing(t *testing.T) {
	for _, p := range plans(t)[:4] {
		for _, n := range fulls(p) {
			_, now := blocks(p, n)
			_, then := blocks(p, n+1)
			for left := range then - now {
				w, o := founded(t, p, 5)
				w.lay(o, 2, pageOf(n))
				w.leave(o, left)
				w.end(o)
				w.settle()
				o = w.begin()
				want(t, "Insert", dir.Insert(o, w.u, p, 2, "new", 7), api.ErrNoSpace)
				w.wantNothing("an Insert without space", o)
				if t.Failed() {
					t.Fatalf("%v: %d names, %d left", p, n, left)
				}
			}
		}
	}
}

// TestNoSpaceKept: P15.2: the block that a Remove gives back is kept: an Insert that asks for one is ErrNoSpace till the Commit behind it, and is done then.
func TestNoSpaceKept(t *testing.T) {
	for _, p := range plans(t)[:5] {
		per := p.Block / 16
		w, o := founded(t, p, 5)
		g := pageOf(2*per + 1)
		w.lay(o, 2, g)
		w.leave(o, 0)
		w.end(o)
		w.settle()
		o = w.begin()
		g.remove(nameOf(1))
		w.remove(o, 2, nameOf(1))
		s := w.seen(o)
		want(t, "Insert", dir.Insert(o, w.u, p, 2, "new", 7), api.ErrNoSpace)
		w.wantSeen("an Insert without space", o, s)
		w.wantPage(o, 2, g)
		w.end(o)
		o = w.begin()
		want(t, "Insert", dir.Insert(o, w.u, p, 2, "new", 7), api.ErrNoSpace)
		w.end(o)
		w.commit()
		o = w.begin()
		g.insert(p, "new", 7, 1)
		w.insert(o, 2, "new", 7)
		w.wantPage(o, 2, g)
		if t.Failed() {
			t.Fatal(p)
		}
	}
}

// TestFull: P15.2, P15.3: where no block can be taken at all, names are set, removed, and inserted while the last block has room.
func TestFull(t *testing.T) {
	for _, p := range plans(t)[:5] {
		per := p.Block / 16
		w, o := founded(t, p, 5)
		g := pageOf(3 * per)
		w.lay(o, 2, g)
		w.leave(o, 0)
		for k := range per - 1 {
			g.remove(nameOf(k))
			w.remove(o, 2, nameOf(k))
		}
		for k := range per - 1 {
			g.insert(p, fmt.Sprint("new-", k), 7, 0)
			w.insert(o, 2, fmt.Sprint("new-", k), 7)
		}
		want(t, "Insert", dir.Insert(o, w.u, p, 2, "too-many", 7), api.ErrNoSpace)
		w.wantPage(o, 2, g)
		w.set(o, 2, "new-0", 9)
		for len(g) > 0 {
			name := g[0].Name
			g.remove(name)
			w.remove(o, 2, name)
		}
		w.wantPage(o, 2, nil)
		if t.Failed() {
			t.Fatal(p)
		}
	}
}

// TestLarge: P15.2: a directory of as many names as a file has room for: the next one is ErrLarge, ahead of ErrNoSpace, and nothing has changed; one that is there is ErrExists. With one fewer, it has room.
func TestLarge(t *testing.T) {
	for _, p := range []api.Plan{planned(t, 64, 1500, 5, 200), planned(t, 1024, 1000, 5, 200)} {
		w, o := founded(t, p, 5)
		g := pageOf(most(p) / 16)
		w.lay(o, 2, g)
		for range 2 {
			s := w.seen(o)
			want(t, "Insert", dir.Insert(o, w.u, p, 2, "new", 7), api.ErrLarge)
			want(t, "Insert", dir.Insert(o, w.u, p, 2, g[len(g)-1].Name, 7), api.ErrExists)
			want(t, "Insert", dir.Insert(o, w.u, p, 2, g[0].Name, 7), api.ErrExists)
			w.wantSeen("an Insert of one name too many", o, s)
			w.leave(o, 0)
		}
		w.wantList(o, 2, g.sorted())
		for _, k := range []int{5, len(g) - 1} {
			x := g[k]
			g.remove(x.Name)
			w.remove(o, 2, x.Name)
			g.insert(p, "new"+x.Name[:3], 7, 0)
			w.insert(o, 2, "new"+x.Name[:3], 7)
			want(t, "Insert", dir.Insert(o, w.u, p, 2, "newer", 7), api.ErrLarge)
		}
		w.wantBytes(o, 2, g)
		w.wantList(o, 2, g.sorted())
	}
}

// deadCall is a call on a directory that is there, and what the directory is behind it.
type deadCall struct {
	call
	then func(g *page) (int, []api.Dirent)
}

// deadCalls answers calls of each kind on directory 2 that a living device allows: at places by each kind of way, with and without a block that is given back or taken.
func deadCalls(p api.Plan, g page) []deadCall {
	list := []deadCall{
		{call{"List", 2, "", 0}, func(g *page) (int, []api.Dirent) { return 0, g.sorted() }},
		{call{"Insert", 2, "new", 7}, func(g *page) (int, []api.Dirent) { g.insert(p, "new", 7, 999); return 0, nil }},
	}
	for k := 0; k < len(g); k += 1 + len(g)/12 {
		x := g[len(g)-1-k]
		list = append(list,
			deadCall{call{"Find", 2, x.Name, 0}, func(*page) (int, []api.Dirent) { return x.Inode, nil }},
			deadCall{call{"Set", 2, x.Name, 77}, func(g *page) (int, []api.Dirent) { g.set(x.Name, 77); return 0, nil }},
			deadCall{call{"Remove", 2, x.Name, 0}, func(g *page) (int, []api.Dirent) { g.remove(x.Name); return 0, nil }},
		)
	}
	return list
}

// run does the call, and answers all that it does.
func (c deadCall) run(w *world, o *group.Op) (i int, list []api.Dirent, e api.Errno) {
	switch c.what {
	case "List":
		list, e = dir.List(o, w.u, w.p, 2)
	case "Find":
		i, e = dir.Find(o, w.u, w.p, 2, c.name)
	default:
		e = c.call.run(w.t, o, w.u, w.p)
	}
	return i, list, e
}

// tall answers a device with a directory of so many names, and a sight of it.
func tall(t *testing.T, p api.Plan, n int) (*world, sight) {
	t.Helper()
	w, o := founded(t, p, 5)
	w.lay(o, 2, pageOf(n))
	w.end(o)
	w.settle()
	o = w.begin()
	s := w.seen(o)
	w.abort(o)
	return w, s
}

// tallSizes answers how many names the directories have whose device dies: with blocks by each kind of way, whose last block is full, has one name, and has some.
var tallSizes = []int{1, 4, 5, 31, 32, 33, 37, 160, 161, 162, 293}

// wantDone holds what a call that was done has answered and left against what it should.
func (w *world) wantDone(c deadCall, o *group.Op, n, i int, list []api.Dirent) {
	w.t.Helper()
	g := pageOf(n)
	inode, all := c.then(&g)
	if i != inode || !slices.Equal(list, all) {
		w.t.Errorf("%v: %d, %v, should be %d, %v", c.call, i, list, inode, all)
	}
	w.wantBytes(o, 2, g)
	w.wantList(o, 2, g.sorted())
}

// TestDead: the error of the first call of the files, the table or the operation that answers one is the answer, wherever it comes: of a device that has died, where only some blocks can be read still, a call is done, and rightly, or it is ErrDead, and nothing has changed (R6). Without the inode's block, or one of the directory's, none is done; with all blocks each is.
func TestDead(t *testing.T) {
	p := planned(t, 64, 700, 6, 140)
	x := dice(5)
	told := map[string]int{}
	for _, n := range tallSizes {
		r, s := tall(t, p, n)
		o := r.begin()
		data, pointers := r.blocks(o, 2)
		r.abort(o)
		needed := slices.Concat([]int{p.Table + 1}, pointers, data)
		all := slices.Concat(needed, []int{p.BBits, p.BBits + 1})
		list := deadCalls(p, pageOf(n))
		for round := range 120 {
			c := list[round%len(list)]
			w := mounted(t, r.d, p, 200)
			o := w.begin()
			without := -1
			if round%3 != 0 {
				without = all[x.below(len(all))]
			}
			for _, b := range all {
				if b != without && (round%3 != 2 || x.below(40) != 0) {
					o.Read(b)
				}
			}
			held := w.c.Held()
			die(t, w.d)
			i, names, e := c.run(w, o)
			want(t, "Crash", w.d.Crash(nil), api.OK)
			told[fmt.Sprint(c.what, e)]++
			lacks := func(b int) bool { return !slices.Contains(held, b) }
			switch {
			case e != api.OK && e != api.ErrDead, e == api.OK && slices.ContainsFunc(needed, lacks), e != api.OK && !slices.ContainsFunc(all, lacks):
				t.Errorf("%v: %d", c.call, e)
			case e == api.OK:
				w.wantDone(c, o, n, i, names)
			default:
				if i != 0 || len(names) != 0 {
					t.Errorf("%v: %d, %v beside an error", c.call, i, names)
				}
				w.wantSeen(c.what, o, s)
				// Whether there is space is found by taking some and putting it back: so blocks may be noted with the bytes that they had.
				if c.what != "Insert" {
					w.wantNothing(c.what, o)
				}
			}
			if t.Failed() {
				t.Fatal(n, round)
			}
		}
	}
	wantTold(t, told, 7)
}

// wantTold holds that calls of all kinds were done and were answered that error.
func wantTold(t *testing.T, told map[string]int, e api.Errno) {
	t.Helper()
	for _, name := range []string{"Find", "Insert", "Remove", "List", "Set"} {
		if told[name+"0"] < 5 || told[fmt.Sprint(name, e)] < 5 {
			t.Error("not all is told of", name, told)
		}
	}
}

// TestDies: R6: wherever within a call the device dies, as the cache makes room for what is read: it is done, or nothing of it is.
func TestDies(t *testing.T) {
	p := planned(t, 64, 700, 6, 140)
	x := dice(6)
	told := map[string]int{}
	for _, n := range tallSizes {
		r, all := tall(t, p, n)
		o := r.begin()
		s := r.inUse(o)
		r.abort(o)
		list := deadCalls(p, pageOf(n))
		_, reads := blocks(p, n)
		for round := range 150 {
			c := list[round%len(list)]
			// With so much room each block is read once from the device, in the place of a dirty one: so it dies at each of them.
			capacity := reads + 4 - x.below(4)
			if round%5 == 0 {
				capacity = 1 + x.below(4)
			}
			w := mounted(t, r.d, p, capacity, x.picks(30)...)
			o := w.begin()
			for k := range capacity {
				if x.below(9) != 0 {
					want(t, "Put", w.c.Put(p.Blocks-1-k, all.blocks[p.Blocks-1-k]), api.OK)
				}
			}
			want(t, "Fuse", w.d.Fuse(x.below(reads+4)), api.OK)
			i, names, e := c.run(w, o)
			want(t, "Crash", w.d.Crash(nil), api.OK)
			told[fmt.Sprint(c.what, e)]++
			if e == api.OK {
				w.wantDone(c, o, n, i, names)
			} else {
				want(t, c.what, e, api.ErrDead)
				if list := s.differs(w.inUse(o)); len(list) != 0 {
					t.Errorf("%v changed blocks %v", c.call, list)
				}
				w.wantBytes(o, 2, pageOf(n))
			}
			if t.Failed() {
				t.Fatal(n, round, capacity)
			}
		}
	}
	wantTold(t, told, 7)
}

// TestDeadCorrupt: R2: that the device is dead comes ahead of 16 bytes that are no name, and of a Size that is odd, wherever these stand.
func TestDeadCorrupt(t *testing.T) {
	p := planned(t, 64, 700, 6, 140)
	for _, n := range []int{5, 32, 300} {
		for _, odd := range []int{0, 3} {
			r, _ := tall(t, p, n)
			o := r.begin()
			r.write(o, 2, 0, make([]byte, 16))
			x := r.get(o, 2)
			x.Size -= odd
			r.put(o, 2, x)
			data, pointers := r.blocks(o, 2)
			r.end(o)
			r.settle()
			for _, c := range calls(2, nameOf(0), nameOf(n-1), "new") {
				for _, without := range []int{0, data[0], data[len(data)/2], data[len(data)-1]} {
					w := mounted(t, r.d, p, 200)
					o := w.begin()
					for _, b := range slices.Concat([]int{p.Table + 1}, pointers, data) {
						if b != without {
							o.Read(b)
						}
					}
					die(t, w.d)
					wanted := api.ErrDead
					if without == 0 {
						wanted = api.ErrCorrupt
					}
					want(t, fmt.Sprint(c), c.run(t, o, w.u, p), wanted)
					want(t, "Crash", w.d.Crash(nil), api.OK)
				}
			}
			if t.Failed() {
				t.Fatal(n, odd)
			}
		}
	}
}

// TestFullCache: an error of the cache is answered as one of the device is: where all of a cache is pinned, what is not held can't be read.
func TestFullCache(t *testing.T) {
	p := planned(t, 64, 700, 6, 140)
	for _, n := range []int{1, 33, 162} {
		r, s := tall(t, p, n)
		for _, c := range deadCalls(p, pageOf(n)) {
			for _, b := range []int{p.LogAt, p.Table + 1} {
				w := mounted(t, r.d, p, 1)
				o := w.begin()
				w.c.Get(b)
				want(t, "Pin", w.c.Pin(b), api.OK)
				i, names, e := c.run(w, o)
				if i != 0 || len(names) != 0 || e != api.ErrFull {
					t.Errorf("%v: %d, %v, %d", c.call, i, names, e)
				}
				want(t, "Unpin", w.c.Unpin(b), api.OK)
				w.wantSeen(c.what, o, s)
				w.wantNothing(c.what, o)
			}
		}
	}
}

// TestEndTooLarge: an operation whose blocks the log has no room for is answered so by End, and the directory is as it was.
func TestEndTooLarge(t *testing.T) {
	p := planned(t, 64, 300, 5, 20)
	w, o := founded(t, p, 3)
	w.insert(o, 2, "there", 5)
	w.end(o)
	o = w.begin()
	for k := range 120 {
		w.insert(o, 2, nameOf(k), 7)
	}
	want(t, "End", o.End(), api.ErrLarge)
	o = w.begin()
	w.wantPage(o, 2, page{{Inode: 5, Name: "there"}})
	if _, e := file.Dirty(o, w.u, 2); e != api.OK {
		t.Error(e)
	}
}
