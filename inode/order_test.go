package inode_test

import (
	"fmt"
	"math"
	"slices"
	"testing"

	"skerry/alloc"
	"skerry/api"
	"skerry/group"
	"skerry/inode"
)

// call is one of a Table, by a name, with its numbers; an inode for Put.
type call struct {
	name string
	i, n int
	x    api.Inode
}

// run does a call, and answers its error; all else beside one must be zero.
func (c call) run(t *testing.T, u *inode.Table, o *group.Op) api.Errno {
	t.Helper()
	var e api.Errno
	var zero bool
	switch c.name {
	case "Get":
		var x api.Inode
		x, e = u.Get(o, c.i)
		zero = x == api.Inode{}
	case "Put":
		e = u.Put(o, c.i, c.x)
		zero = true
	case "Find":
		var b int
		b, e = u.Find(o, c.i, c.n)
		zero = b == 0
	case "Make":
		var b int
		var fresh bool
		b, fresh, e = u.Make(o, c.i, c.n)
		zero = b == 0 && !fresh
	case "Cut":
		e = u.Cut(o, c.i, c.n)
		zero = true
	case "Blocks":
		var data, pointers []int
		data, pointers, e = u.Blocks(o, c.i)
		zero = len(data) == 0 && len(pointers) == 0
	}
	if e != api.OK && !zero {
		t.Errorf("%v: not all is zero beside the error %d", c, e)
	}
	return e
}

// calls answers calls of all kinds on inode i, with numbers that are allowed.
func calls(p api.Plan, i int) []call {
	list := []call{{"Get", i, 0, api.Inode{}}, {"Put", i, 0, api.Inode{Kind: 1}}, {"Put", i, 0, api.Inode{}}, {"Blocks", i, 0, api.Inode{}}}
	for _, n := range inFile(p, edges(p)) {
		list = append(list, call{"Find", i, n, api.Inode{}}, call{"Make", i, n, api.Inode{}})
	}
	for _, n := range sizes(p) {
		if isSize(p, n) {
			list = append(list, call{"Cut", i, n, api.Inode{}})
		}
	}
	return list
}

// outOfRange answers calls whose numbers are not allowed.
func outOfRange(p api.Plan) []call {
	var list []call
	for _, i := range append(slices.Clone(far), -1, p.Inodes) {
		list = append(list, calls(p, i)...)
		list = append(list, call{"Put", i, 0, api.Inode{Kind: 7}}, call{"Put", i, 0, api.Inode{Kind: 1, Links: -1}})
	}
	for _, n := range append(slices.Clone(far), -1, most(p)) {
		list = append(list, call{"Find", 1, n, api.Inode{}}, call{"Make", 1, n, api.Inode{}})
	}
	for _, n := range append(slices.Clone(far), -1, most(p)*p.Block+1) {
		list = append(list, call{"Cut", 1, n, api.Inode{}})
	}
	return list
}

// ops answers operations that do nothing any more, each with its error: none, one that has ended, one that was given up, one that no group began.
func (w *world) ops() map[*group.Op]api.Errno {
	w.t.Helper()
	ended, given := w.begin(), (*group.Op)(nil)
	w.end(ended)
	given = w.begin()
	w.abort(given)
	return map[*group.Op]api.Errno{nil: api.ErrArg, ended: api.ErrOver, given: api.ErrOver, {}: api.ErrOver}
}

// TestNilTable: every call of a nil Table is ErrArg, ahead of all other errors.
func TestNilTable(t *testing.T) {
	p := planned(t, 64, 100, 10, 30)
	w := formatted(t, p, 2)
	list := append(calls(p, 1), outOfRange(p)...)
	for x := range refusedInodes() {
		list = append(list, call{"Put", 1, 0, x})
	}
	ops := w.ops()
	ops[w.begin()] = api.OK
	for o := range ops {
		for _, c := range list {
			want(t, fmt.Sprint(c), c.run(t, nil, o), api.ErrArg)
		}
	}
}

// TestOperationFirst: R2, ErrRange and the error of codec.Inode come ahead of the operation's errors, and these ahead of ErrCorrupt and of what codec.Inode has of an inode that is free.
func TestOperationFirst(t *testing.T) {
	for _, p := range plans(t)[:6] {
		w := formatted(t, p, 2)
		for b := p.Table; b < p.Data-1; b++ {
			data := make([]byte, p.Block)
			for i := range data {
				data[i] = 0xff
			}
			want(t, "Load", w.d.Load(b, data), api.OK)
		}
		for o, e := range w.ops() {
			// The first inode cannot be read, the last one is free.
			for _, c := range slices.Concat(calls(p, 0), calls(p, 1), calls(p, p.Inodes-1)) {
				want(t, fmt.Sprint(c), c.run(t, w.u, o), e)
			}
			for _, c := range outOfRange(p) {
				want(t, fmt.Sprint(c), c.run(t, w.u, o), api.ErrRange)
			}
			for x, f := range refusedInodes() {
				c := call{"Put", p.Inodes - 1, 0, x}
				want(t, fmt.Sprint(c), c.run(t, w.u, o), f)
			}
		}
		if got := w.g.Blocks(); len(got) != 0 {
			t.Error("calls that were refused have written", got)
		}
	}
}

// TestOverWhileOpen: an operation that is over does not reach the one that is open.
func TestOverWhileOpen(t *testing.T) {
	p := planned(t, 64, 100, 10, 30)
	w := formatted(t, p, 2)
	elder := w.begin()
	w.born(elder, 1)
	w.make(elder, 1, 9)
	w.end(elder)
	o := w.begin()
	w.make(o, 1, 3)
	s := w.seen(o)
	for _, c := range slices.Concat(calls(p, 1), calls(p, 2)) {
		want(t, fmt.Sprint(c), c.run(t, w.u, elder), api.ErrOver)
	}
	w.wantSeen("an operation that is over", o, s)
}

// tall answers a device with a file, inode 2, that has blocks by each kind of way, with holes between them, and the blocks that a call needs to read of it: the inode's, Single, Double, and what Double names at 0 and at 2.
func tall(t *testing.T, p api.Plan) (d *both, inodes, single, double, first, third int) {
	t.Helper()
	w := formatted(t, p, 9)
	per := p.Block / 2
	o := w.begin()
	// Another file's blocks stand between, so that several blocks of the bitmap are asked for.
	w.born(o, 2)
	w.born(o, 3)
	for _, n := range []int{0, 5, 9, 8 + per + 3} {
		w.make(o, 2, n)
	}
	for w.make(o, 3, 0); len(w.used(o)) < p.Blocks-p.Data-40; {
		w.a.Block(o)
	}
	for _, n := range []int{6, 8 + per - 1, 8 + 4*per - 1} {
		w.make(o, 2, n)
	}
	w.end(o)
	w.settle()
	o = w.begin()
	_, pointers, _ := w.u.Blocks(o, 2)
	w.abort(o)
	return &both{world: w}, p.Table + 2/(p.Block/32), pointers[0], pointers[1], pointers[2], pointers[3]
}

// needs answers the blocks that a call on the file of tall reads, in order: the first of them that cannot be read is what refuses it.
func needs(p api.Plan, c call, inodes, single, double, first, third int) []int {
	per := p.Block / 2
	low, high := p.BBits, p.BBits+p.BLen-1
	switch c.name {
	case "Get", "Put":
		return []int{inodes}
	case "Blocks":
		return []int{inodes, single, double, first, third}
	case "Find", "Make":
		list := []int{inodes}
		switch ways := waysTo(p, c.n); ways[0][0] {
		case 8:
			list = append(list, single)
		case 9:
			list = append(list, double)
			switch ways[1][1] {
			case 0:
				list = append(list, first)
			case 2:
				list = append(list, third)
			}
		}
		if hole := !slices.Contains([]int{0, 5, 6, 9, 8 + per - 1, 8 + per + 3, 8 + 4*per - 1}, c.n); hole && c.name == "Make" {
			// Free blocks stand behind all that are in use, in the bitmap's last block; those ahead of it are gone through first.
			list = append(list, upTo(low, high+1)...)
		}
		return list
	}
	goes := func(n int) bool { return n*p.Block >= c.n }
	list := []int{inodes}
	add := func(any bool, b int) {
		if any {
			list = append(list, b)
		}
	}
	add(goes(8+per-1), single)
	add(goes(8+per+per*per-1), double)
	add(goes(8+per+per-1), first)
	add(goes(8+4*per-1), third)
	add(goes(0) || goes(5) || goes(9) || goes(8+per+3), low)
	add(goes(6) || goes(8+per-1) || goes(8+4*per-1), high)
	return list
}

// TestDead: with R6: of a device that has died, where only some blocks can be read still, the error of the first call of the operation or of the alloc that answers one is the answer, wherever it comes; where all that is needed can be read, there is none. A call that was refused has changed nothing, but for what a Make has taken.
func TestDead(t *testing.T) {
	p := planned(t, 64, 700, 6, 40)
	r, inodes, single, double, first, third := tall(t, p)
	blocks := []int{inodes, single, double, first, third, p.BBits, p.BBits + p.BLen - 1}
	if p.BLen != 2 {
		t.Fatal("the bitmap has not two blocks:", p)
	}
	per := p.Block / 2
	var list []call
	for _, c := range calls(p, 2) {
		if c.name != "Put" || c.x.Kind == 1 {
			list = append(list, c)
		}
	}
	for _, n := range []int{5, 6, 7, 9, 10, 8 + per + 3, 8 + per + 4, 8 + 4*per - 1, 8 + 4*per - 2, 8 + 2*per} {
		list = append(list, call{"Find", 2, n, api.Inode{}}, call{"Make", 2, n, api.Inode{}})
	}
	told := map[string]int{}
	for which := range 1 << len(blocks) {
		for _, pins := range []bool{false, true} {
			if pins && which%7 != 3 {
				continue
			}
			for _, c := range list {
				w := mounted(t, r.d, p, len(blocks))
				o := w.begin()
				for n, b := range blocks {
					if which>>n&1 == 1 {
						w.read(o, b)
					}
				}
				shut := shutOff(t, w, len(blocks), pins)
				wanted := api.OK
				for _, b := range needs(p, c, inodes, single, double, first, third) {
					if n := slices.Index(blocks, b); which>>n&1 == 0 {
						wanted = shut
						break
					}
				}
				e := c.run(t, w.u, o)
				told[fmt.Sprint(c.name, e)]++
				if e != wanted {
					t.Fatalf("%v, readable %b, pins %v: %d, should be %d", c, which, pins, e, wanted)
				}
				if wanted != api.OK {
					w.end(o)
					if got := w.g.Blocks(); len(got) != 0 {
						t.Fatalf("%v, readable %b: a call that was refused has written %v", c, which, got)
					}
				}
				want(t, "Crash", r.d.Crash(nil), api.OK)
			}
		}
	}
	for _, name := range []string{"Get", "Put", "Find", "Make", "Cut", "Blocks"} {
		if told[name+"0"] == 0 || told[name+"7"] == 0 || told[name+"8"] == 0 {
			t.Error("not all is told of", name, told)
		}
	}
}

// shutOff lets nothing be read but what is held, and answers the error then: the device dies, or all of a cache that holds as much as it can is pinned.
func shutOff(t *testing.T, w *world, capacity int, pins bool) api.Errno {
	t.Helper()
	if !pins {
		die(t, w.d)
		return api.ErrDead
	}
	for b := w.p.LogAt; len(w.c.Held()) < capacity; b++ {
		w.c.Get(b)
	}
	for _, b := range w.c.Held() {
		want(t, "Pin", w.c.Pin(b), api.OK)
	}
	return api.ErrFull
}

// TestMakeDead: P13.2, wherever within a Make the device dies, as the cache makes room for what is read: what was taken stays taken, and all of it but the last one is named on the way.
func TestMakeDead(t *testing.T) {
	p := planned(t, 64, 700, 6, 40)
	r, _, _, _, _, _ := tall(t, p)
	o := r.begin()
	s, before := r.seen(o), r.used(o)
	_, pointers, _ := r.u.Blocks(o, 2)
	r.abort(o)
	told := map[string]int{}
	x := dice(9)
	for n := range 3000 {
		fuse, capacity := n%4, 1+n/4%6
		w := mounted(t, r.d, p, capacity, x.picks(20)...)
		o := w.begin()
		for n := range capacity {
			if x.below(4) != 0 {
				want(t, "Put", w.c.Put(p.Blocks-1-n, s.blocks[p.Blocks-1-n]), api.OK)
			}
		}
		want(t, "Fuse", w.d.Fuse(fuse), api.OK)
		index := []int{1, 10, 41, 75, 44, 500}[x.below(6)]
		b, fresh, e := w.u.Make(o, 2, index)
		want(t, "Crash", w.d.Crash(nil), api.OK)
		if e != api.OK && e != api.ErrDead || (e == api.OK) != (b != 0) || (e == api.OK) != fresh {
			t.Errorf("Make: %d, %v, %d", b, fresh, e)
		}
		w.wantFind(o, 2, index, b)
		_, now, f := w.u.Blocks(o, 2)
		want(t, "Blocks", f, api.OK)
		taken := slices.DeleteFunc(w.used(o), func(b int) bool { return slices.Contains(before, b) })
		named := slices.DeleteFunc(now, func(b int) bool { return slices.Contains(pointers, b) })
		if e == api.OK {
			named = append(named, b)
		} else if len(taken) > len(named) {
			taken = taken[:len(taken)-1]
			told["taken, and not named"]++
		}
		slices.Sort(named)
		if !slices.Equal(taken, named) {
			t.Errorf("taken are %v, named %v", taken, named)
		}
		told[fmt.Sprint(e)]++
		if t.Failed() {
			t.Fatal(n, index)
		}
	}
	if told["0"] == 0 || told["7"] == 0 || told["taken, and not named"] == 0 {
		t.Error("not all is told:", told)
	}
}

// TestCutDead: P13.3, with R6: wherever within a Cut the device dies, as the cache makes room for what is read: it is done, or nothing of it is.
func TestCutDead(t *testing.T) {
	p := planned(t, 64, 700, 6, 40)
	r, _, _, _, _, _ := tall(t, p)
	told := map[api.Errno]int{}
	x := dice(8)
	o := r.begin()
	s := r.seen(o)
	r.abort(o)
	for n := range 3000 {
		fuse, capacity := n%4, 1+n/4%8
		w := mounted(t, r.d, p, capacity, x.picks(20)...)
		o := w.begin()
		for n := range capacity {
			if x.below(4) != 0 {
				want(t, "Put", w.c.Put(p.Blocks-1-n, s.blocks[p.Blocks-1-n]), api.OK)
			}
		}
		want(t, "Fuse", w.d.Fuse(fuse), api.OK)
		size := []int{0, 64, 9 * 64, 30 * 64, 50 * 64, 41 * 64}[x.below(6)]
		e := w.u.Cut(o, 2, size)
		told[e]++
		want(t, "Crash", w.d.Crash(nil), api.OK)
		if e == api.OK {
			wantNumber(t, "Size", w.get(o, 2).Size, api.OK, size, api.OK)
		} else {
			want(t, "Cut", e, api.ErrDead)
			w.wantSeen("a Cut that was refused", o, s)
			w.wantNothing("a Cut that was refused", o, nil)
		}
		if t.Failed() {
			t.Fatal(n, fuse, capacity, size)
		}
	}
	if told[api.OK] < 100 || told[api.ErrDead] < 100 {
		t.Error("too few of each kind:", told)
	}
}

// TestDeadThenAlive: R6, an operation whose calls found the device dead goes on, behind a crash, as if they had not been.
func TestDeadThenAlive(t *testing.T) {
	p := planned(t, 64, 700, 6, 40)
	r, _, _, _, _, _ := tall(t, p)
	w := mounted(t, r.d, p, 3)
	o := w.begin()
	die(t, w.d)
	for _, c := range calls(p, 2) {
		want(t, fmt.Sprint(c), c.run(t, w.u, o), api.ErrDead)
	}
	want(t, "Crash", w.d.Crash(nil), api.OK)
	data, pointers, e := w.u.Blocks(o, 2)
	if len(data) != 8+4*32 || len(pointers) != 4 || e != api.OK {
		t.Error("Blocks:", data, pointers, e)
	}
	b, fresh, e := w.u.Make(o, 2, 1)
	if b == 0 || !fresh || e != api.OK {
		t.Error("Make:", b, fresh, e)
	}
	want(t, "Cut", w.u.Cut(o, 2, 0), api.OK)
	w.wantBlocks(o, 2, nil, nil)
}

// callAll calls all that a Table has, for no panic.
func callAll(u *inode.Table, o *group.Op, p api.Plan) {
	numbers := []int{math.MinInt, -1, 0, 1, 2, 7, 8, 9, 39, 40, 72, 127, 128, 264, 1023, 1063, 1064, 4095, 4096, 68096, 524288, 524289, math.MaxInt}
	for _, i := range []int{math.MinInt, -1, 0, 1, 2, p.Inodes - 1, p.Inodes, math.MaxInt} {
		u.Get(o, i)
		for _, n := range numbers {
			u.Find(o, i, n)
			u.Make(o, i, n)
		}
		u.Blocks(o, i)
		for _, n := range slices.Backward(numbers) {
			u.Cut(o, i, n)
		}
		for n := range odd() {
			u.Put(o, i, odd()[n])
			u.Find(o, i, 8)
			u.Make(o, i, 41)
			u.Blocks(o, i)
			u.Cut(o, i, 64*n)
		}
	}
}

// TestOddObjects: R1, objects that no call has made, and objects of several groups and plans, answer something, without a panic.
func TestOddObjects(t *testing.T) {
	all := plans(t)
	callAll(nil, nil, api.Plan{})
	callAll(&inode.Table{}, nil, all[2])
	callAll(&inode.Table{}, &group.Op{}, all[2])
	for _, p := range all {
		for _, q := range all {
			w := formatted(t, p, 2)
			o := w.begin()
			callAll(&inode.Table{}, o, q)
			w.abort(o)
			a, e := alloc.New(w.g, q)
			want(t, "alloc.New", e, api.OK)
			g, e := alloc.New(&group.Group{}, q)
			want(t, "alloc.New", e, api.OK)
			for _, some := range []*alloc.Alloc{a, g, w.a, {}} {
				u, e := inode.New(some, q)
				want(t, "New", e, api.OK)
				o := w.begin()
				callAll(u, o, q)
				callAll(u, nil, q)
				w.abort(o)
			}
		}
	}
}

// TestAnyBytes: R1, whatever stands on a device, calls answer something, without a panic, and what Find and Make answer is the same.
func TestAnyBytes(t *testing.T) {
	x := dice(77)
	for round := range 60 {
		n := [][4]int{{64, 40, 9, 8}, {64, 100, 10, 30}, {128, 60, 30, 6}, {256, 40, 5, 4}, {64, 600, 20, 40}}[round%5]
		p := planned(t, n[0], n[1], n[2], n[3])
		w := formatted(t, p, 1+x.below(9))
		for b := p.IBits; b < p.Blocks; b++ {
			data := make([]byte, p.Block)
			for i := range data {
				switch x.below(4) {
				case 0:
					data[i] = byte(x.below(256))
				case 1:
					data[i] = byte(x.below(p.Blocks))
				}
				// Inodes that can be read, and pointers that may be blocks.
				if b >= p.Table && (i%32 == 1 || i%32 >= 28) || i%2 == 1 && x.below(9) != 0 {
					data[i] = byte(x.below(p.Blocks/256 + 1))
				}
				if b >= p.Table && b < p.Data {
					switch {
					case i%32 == 0:
						data[i] = byte(1 + x.below(2))
					case i%32 == 1 || i%32 >= 28:
						data[i] = 0
					}
				}
			}
			want(t, "Load", w.d.Load(b, data), api.OK)
		}
		w = mounted(t, w.d, p, 1+x.below(9))
		o := w.begin()
		for range 60 {
			i, n := x.below(p.Inodes), x.below(most(p))
			b, e := w.u.Find(o, i, n)
			c, fresh, f := w.u.Make(o, i, n)
			if e == api.OK && b != 0 && (c != b || fresh || f != api.OK) {
				t.Errorf("Find: %d, Make: %d, %v, %d", b, c, fresh, f)
			}
			w.u.Blocks(o, x.below(p.Inodes))
			s := w.seen(o)
			if e := w.u.Cut(o, i, x.below(most(p)*p.Block)); e != api.OK {
				w.wantSeen("Cut", o, s)
			}
		}
	}
}
