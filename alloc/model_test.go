package alloc_test

import (
	"fmt"
	"maps"
	"math"
	"slices"
	"testing"

	"skerry/alloc"
	"skerry/api"
	"skerry/group"
	"skerry/wal"
)

// numbers is a set of them.
type numbers map[int]struct{}

func (n numbers) has(i int) bool {
	_, has := n[i]
	return has
}

func (n numbers) put(i int) {
	n[i] = struct{}{}
}

// page is what an operation sees and has done: blocks and inodes in use, blocks that it writes into the log, and frees.
type page struct {
	blocks, inodes, writes, frees numbers
}

// book is the chapter as sets, without bitmaps: what is in use behind the operations that have ended, what the group has, and what was freed behind the last Commit. Only what is pending is asked of the log.
type book struct {
	p                            api.Plan
	l                            *wal.Log
	blocks, inodes, group, freed numbers
	open                         *page
}

func newBook(p api.Plan, l *wal.Log) *book {
	k := &book{p: p, l: l, blocks: numbers{}, inodes: numbers{0: {}, 1: {}}, group: numbers{}, freed: numbers{}}
	for b := range p.Data {
		k.blocks.put(b)
	}
	return k
}

func (k *book) begin() {
	k.open = &page{maps.Clone(k.blocks), maps.Clone(k.inodes), numbers{}, numbers{}}
}

// canTake answers the blocks that can be taken, rising.
func (k *book) canTake() []int {
	kept := maps.Clone(k.freed)
	maps.Copy(kept, k.open.frees)
	for _, w := range k.l.Pending() {
		kept.put(w.Block)
	}
	var list []int
	for b := k.p.Data; b < k.p.Blocks; b++ {
		if !k.open.blocks.has(b) && !kept.has(b) {
			list = append(list, b)
		}
	}
	return list
}

// freeInodes answers those that are not in use, rising.
func (k *book) freeInodes() []int {
	var list []int
	for i := range k.p.Inodes {
		if !k.open.inodes.has(i) {
			list = append(list, i)
		}
	}
	return list
}

// touch notes that the operation writes the block of a bitmap in which bit i stands.
func (k *book) touch(at, i int) {
	k.open.writes.put(at + i/(8*k.p.Block))
}

func (k *book) takeBlock() (int, api.Errno) {
	list := k.canTake()
	if len(list) == 0 {
		return 0, api.ErrNoSpace
	}
	k.open.blocks.put(list[0])
	k.touch(k.p.BBits, list[0])
	return list[0], api.OK
}

func (k *book) takeInode() (int, api.Errno) {
	list := k.freeInodes()
	if len(list) == 0 {
		return 0, api.ErrNoSpace
	}
	k.open.inodes.put(list[0])
	k.touch(k.p.IBits, list[0])
	return list[0], api.OK
}

func (k *book) freeBlock(b int) api.Errno {
	if b < k.p.Data || b >= k.p.Blocks {
		return api.ErrRange
	}
	if !k.open.blocks.has(b) {
		return api.ErrNone
	}
	delete(k.open.blocks, b)
	delete(k.open.writes, b)
	k.open.frees.put(b)
	k.touch(k.p.BBits, b)
	return api.OK
}

func (k *book) freeInode(i int) api.Errno {
	if i < 2 || i >= k.p.Inodes {
		return api.ErrRange
	}
	if !k.open.inodes.has(i) {
		return api.ErrNone
	}
	delete(k.open.inodes, i)
	k.touch(k.p.IBits, i)
	return api.OK
}

func (k *book) uses(n numbers) int {
	most := (k.p.Block - 10) / 2
	return len(n) + (len(n)+most-1)/most
}

// end answers ErrLarge, if the operation is too large for the log, and else lets it be done.
func (k *book) end() api.Errno {
	o := k.open
	k.open = nil
	if k.uses(o.writes) > k.p.Log {
		return api.ErrLarge
	}
	both := maps.Clone(k.group)
	maps.Copy(both, o.writes)
	if k.uses(both) > k.p.Log {
		k.commit()
	}
	k.blocks, k.inodes = o.blocks, o.inodes
	maps.Copy(k.group, o.writes)
	for b := range o.frees {
		delete(k.group, b)
		k.freed.put(b)
	}
	return api.OK
}

func (k *book) commit() {
	clear(k.group)
	clear(k.freed)
}

// bits answers a set, rising.
func (n numbers) bits() []int {
	return slices.Sorted(maps.Keys(n))
}

// scribe is a script on a world, and the book of it.
type scribe struct {
	w    *world
	k    *book
	o    *group.Op
	x    *dice
	told map[string]int
}

// step does one call on both, and holds their answers against each other.
func (s *scribe) step() {
	s.w.t.Helper()
	if s.o == nil {
		switch s.x.below(4) {
		case 0:
			s.w.commit()
			s.k.commit()
		case 1:
			if s.x.below(3) == 0 {
				s.w.settle()
				s.k.commit()
			}
		}
		s.o = s.w.begin()
		s.k.begin()
		return
	}
	switch n := s.x.below(40); {
	case n < 12:
		s.takeBlock()
	case n < 18:
		i, e := s.w.a.Inode(s.o)
		wanted, f := s.k.takeInode()
		s.tell("Inode", e)
		wantNumber(s.w.t, "Inode", i, e, wanted, f)
	case n < 27:
		b := s.number(s.k.open.blocks, s.w.p.Data, s.w.p.Blocks)
		e := s.w.a.FreeBlock(s.o, b)
		s.tell("FreeBlock", e)
		want(s.w.t, fmt.Sprint("FreeBlock ", b), e, s.k.freeBlock(b))
	case n < 32:
		i := s.number(s.k.open.inodes, 2, s.w.p.Inodes)
		e := s.w.a.FreeInode(s.o, i)
		s.tell("FreeInode", e)
		want(s.w.t, fmt.Sprint("FreeInode ", i), e, s.k.freeInode(i))
	case n < 35:
		s.count()
	default:
		s.over()
	}
}

// takeBlock takes a block, and often writes it, so that it is the log's or the cache's later.
func (s *scribe) takeBlock() {
	s.w.t.Helper()
	b, e := s.w.a.Block(s.o)
	wanted, f := s.k.takeBlock()
	s.tell("Block", e)
	wantNumber(s.w.t, "Block", b, e, wanted, f)
	data := make([]byte, s.w.p.Block)
	switch {
	case e != api.OK:
	case s.x.below(3) == 0:
		want(s.w.t, "Write", s.o.Write(b, data), api.OK)
		s.k.open.writes.put(b)
	case s.x.below(2) == 0:
		want(s.w.t, "Data", s.o.Data(b, data), api.OK)
	}
}

// number answers one that is in use, mostly, or any other.
func (s *scribe) number(used numbers, from, end int) int {
	list := slices.DeleteFunc(used.bits(), func(i int) bool { return i < from })
	switch n := s.x.below(12); {
	case n == 0:
		return []int{math.MinInt, -1, 0, 1, from - 1, end, end + 1, math.MaxInt}[s.x.below(8)]
	case n < 3 || len(list) == 0:
		return from + s.x.below(end-from+1)
	}
	return list[s.x.below(len(list))]
}

// count holds what is free, and the bitmaps, against the book.
func (s *scribe) count() {
	s.w.t.Helper()
	blocks, inodes := s.k.canTake(), s.k.freeInodes()
	s.w.wantFree(s.o, len(blocks), len(inodes))
	s.w.wantBits(s.o, s.k.open.inodes.bits(), s.k.open.blocks.bits())
}

// over ends the operation, or gives it up.
func (s *scribe) over() {
	s.w.t.Helper()
	if s.x.below(3) == 0 {
		want(s.w.t, "Abort", s.o.Abort(), api.OK)
		s.k.open = nil
	} else {
		e := s.o.End()
		s.tell("End", e)
		want(s.w.t, "End", e, s.k.end())
	}
	s.o = nil
	s.w.wantBits(s.w.g, s.k.inodes.bits(), s.k.blocks.bits())
}

func (s *scribe) tell(call string, e api.Errno) {
	s.told[fmt.Sprint(call, e)]++
}

// TestScripts: P12.1 to P12.4, long scripts of operations that take, free, write, end, are given up and committed, on devices that run full, with logs and caches of several sizes: all that is taken, freed and counted is what the sets say.
func TestScripts(t *testing.T) {
	told := map[string]int{}
	for seed := range 120 {
		x := dice(seed)
		n := [][4]int{{64, 10, 2, 4}, {64, 12, 4, 4}, {64, 24, 6, 5}, {64, 40, 9, 8}, {64, 60, 12, 30}, {64, 600, 520, 14}, {64, 540, 2, 506}, {128, 60, 30, 6}, {4096, 24, 5, 7}}[seed%9]
		p := planned(t, n[0], n[1], n[2], n[3])
		w := formatted(t, p, []int{1, 2, 3, 5, 40}[x.below(5)], x.picks(60)...)
		s := &scribe{w: w, k: newBook(p, w.l), x: &x, told: told}
		for i := range 400 {
			s.step()
			if t.Failed() {
				t.Fatalf("seed %d, call %d", seed, i)
			}
		}
	}
	for _, name := range []string{"Block0", "Block10", "Inode0", "Inode10", "FreeBlock0", "FreeBlock2", "FreeBlock11", "FreeInode0", "FreeInode2", "FreeInode11", "End0", "End5"} {
		if told[name] == 0 {
			t.Errorf("no script has %s", name)
		}
	}
}

// naive is the chapter's words one by one: every bit is asked for by itself.
type naive struct {
	g *group.Group
	p api.Plan
}

func (n naive) bit(o *group.Op, at, i int) (bool, api.Errno) {
	data, e := o.Read(at + i/(8*n.p.Block))
	if e != api.OK {
		return false, e
	}
	i %= 8 * n.p.Block
	return data[i/8]>>(i%8)&1 == 1, api.OK
}

func (n naive) flip(o *group.Op, at, i int) api.Errno {
	b := at + i/(8*n.p.Block)
	data, e := o.Read(b)
	if e != api.OK {
		return e
	}
	i %= 8 * n.p.Block
	data[i/8] ^= 1 << (i % 8)
	return o.Write(b, data)
}

func (n naive) take(o *group.Op, at, from, end int, kept func(int) bool) (int, api.Errno) {
	for i := from; i < end; i++ {
		one, e := n.bit(o, at, i)
		if e != api.OK {
			return 0, e
		}
		if !one && !kept(i) {
			return i, n.flip(o, at, i)
		}
	}
	return 0, api.ErrNoSpace
}

func (n naive) release(o *group.Op, at, i, from, end int) api.Errno {
	if i < from || i >= end {
		return api.ErrRange
	}
	one, e := n.bit(o, at, i)
	if e != api.OK {
		return e
	}
	if !one {
		return api.ErrNone
	}
	return n.flip(o, at, i)
}

func (n naive) free(o *group.Op) (complex128, api.Errno) {
	var free complex128
	for b := n.p.Data; b < n.p.Blocks; b++ {
		one, e := n.bit(o, n.p.BBits, b)
		if e != api.OK {
			return 0, e
		}
		if !one && !n.g.Kept(b) {
			free++
		}
	}
	for i := range n.p.Inodes {
		one, e := n.bit(o, n.p.IBits, i)
		if e != api.OK {
			return 0, e
		}
		if !one {
			free += 1i
		}
	}
	return free, api.OK
}

func (n naive) format(o *group.Op) api.Errno {
	for b := n.p.IBits; b < n.p.Table; b++ {
		if e := o.Write(b, make([]byte, n.p.Block)); e != api.OK {
			return e
		}
	}
	for i := range 2 {
		n.flip(o, n.p.IBits, i)
	}
	for b := range n.p.Data {
		n.flip(o, n.p.BBits, b)
	}
	return api.OK
}

// pair is an Alloc and the naive one, each on a device of its own, with the operation that each began last, and the one ahead of it.
type pair struct {
	w, v               *world
	n                  naive
	o, elder, u, uncle *group.Op
}

func newPair(w, v *world) *pair {
	return &pair{w: w, v: v, n: naive{v.g, v.p}}
}

// answer is all that a call may answer.
type answer struct {
	n int
	z complex128
	e api.Errno
}

func number(n int, e api.Errno) answer {
	return answer{n: n, e: e}
}

func amount(z complex128, e api.Errno) answer {
	return answer{z: z, e: e}
}

func only(e api.Errno) answer {
	return answer{e: e}
}

// run lets both do one call, on the operations o and u.
func (r *pair) run(name string, n int, o, u *group.Op) (got, wanted answer) {
	p := r.w.p
	switch name {
	case "Block":
		return number(r.w.a.Block(o)), number(r.n.take(u, p.BBits, p.Data, p.Blocks, r.v.g.Kept))
	case "Inode":
		return number(r.w.a.Inode(o)), number(r.n.take(u, p.IBits, 0, p.Inodes, func(int) bool { return false }))
	case "FreeBlock":
		e := r.n.release(u, p.BBits, n, p.Data, p.Blocks)
		if e == api.OK {
			e = u.Free(n)
		}
		return only(r.w.a.FreeBlock(o, n)), only(e)
	case "FreeInode":
		return only(r.w.a.FreeInode(o, n)), only(r.n.release(u, p.IBits, n, 2, p.Inodes))
	case "Free":
		return amount(r.w.a.Free(o)), amount(r.n.free(u))
	case "Format":
		return only(alloc.Format(o, p)), only(r.n.format(u))
	case "Begin":
		return r.begin()
	}
	return only(beneath(r.w, name, n, o)), only(beneath(r.v, name, n, u))
}

func (r *pair) begin() (got, wanted answer) {
	o, e := r.w.g.Begin()
	u, f := r.v.g.Begin()
	if o != nil && u != nil {
		r.elder, r.uncle, r.o, r.u = r.o, r.u, o, u
	}
	return only(e), only(f)
}

// beneath does a call of what an Alloc stands on.
func beneath(w *world, name string, n int, o *group.Op) api.Errno {
	data := make([]byte, w.p.Block)
	switch name {
	case "Write":
		return o.Write(n, data)
	case "Data":
		return o.Data(n, data)
	case "OpFree":
		return o.Free(n)
	case "End":
		return o.End()
	case "Abort":
		return o.Abort()
	case "Commit":
		return w.g.Commit()
	case "Settle":
		return w.g.Settle()
	case "Fuse":
		return w.d.Fuse(n)
	case "Get":
		_, e := w.c.Get(n)
		return e
	case "Pin":
		return w.c.Pin(n)
	case "Unpin":
		return w.c.Unpin(n)
	}
	return w.c.Drop(n)
}

// next answers a call, and a number for it.
func (x *dice) next(p api.Plan) (string, int) {
	names := []string{"Block", "Block", "Block", "Block", "Inode", "Inode", "Inode", "FreeBlock", "FreeBlock", "FreeBlock", "FreeInode", "FreeInode", "Free", "Free", "Begin", "Begin", "Begin", "End", "End", "Commit", "Settle", "Abort", "Write", "Data", "OpFree", "Get", "Pin", "Unpin", "Unpin", "Drop", "Fuse", "Format"}
	name := names[x.below(len(names))]
	switch {
	case name == "Fuse":
		return name, []int{0, 1, 2, 3, 5, 8, 13, -1}[x.below(8)]
	case name == "Format" && x.below(4) != 0:
		return "Block", 0
	case name == "FreeInode":
		return name, x.below(p.Inodes+4) - 2
	case name == "Write" && x.below(2) == 0 || name == "Get" || name == "Pin" || name == "Drop" || name == "Unpin":
		return name, p.IBits + x.below(p.Blocks-p.IBits+2)
	case x.below(30) == 0:
		return name, []int{math.MinInt, -1, 0, p.Data - 1, p.Blocks, math.MaxInt}[x.below(6)]
	}
	return name, p.Data + x.below(min(p.Blocks-p.Data, 30))
}

// TestTwins: P12.1 to P12.4, with R2 and R6: long scripts of all calls, on operations that are open and over, with what others write, free, pin and drop, with fuses and crashes: all answers, and all that is stood on, are those of a twin that asks for each bit by itself.
func TestTwins(t *testing.T) {
	told := map[string]int{}
	for seed := range 100 {
		x := dice(1000 + seed)
		n := [][4]int{{64, 12, 4, 4}, {64, 40, 9, 8}, {64, 60, 12, 30}, {64, 560, 520, 14}, {64, 540, 2, 506}, {128, 60, 30, 6}, {4096, 24, 5, 7}}[seed%7]
		p := planned(t, n[0], n[1], n[2], n[3])
		fill, capacity, picks := []byte{0, 0xff, 0x5a, 0x80}[x.below(4)], 1+x.below(5), x.picks(40)
		r := newPair(mounted(t, filled(t, p, fill), p, capacity, picks...), mounted(t, filled(t, p, fill), p, capacity, picks...))
		for i := range 300 {
			name, n := x.next(p)
			o, u := r.o, r.u
			if x.below(40) == 0 {
				o, u = r.elder, r.uncle
			}
			got, wanted := r.run(name, n, o, u)
			if got != wanted {
				t.Fatalf("seed %d, call %d, %s(%d): %v, should be %v", seed, i, name, n, got, wanted)
			}
			told[fmt.Sprint(name, got.e)]++
			if what := r.w.snapped().differs(r.v.snapped()); what != "" {
				t.Fatalf("seed %d, call %d, %s(%d): not the same: %s", seed, i, name, n, what)
			}
			// A log that has met a dead device does nothing more, so all is mounted anew soon.
			if got.e == api.ErrDead && x.below(4) == 0 {
				picks := x.picks(20)
				want(t, "Crash", r.w.d.Crash(picks), r.v.d.Crash(picks))
				capacity, picks = 1+x.below(5), x.picks(30)
				r = newPair(mounted(t, r.w.d, p, capacity, picks...), mounted(t, r.v.d, p, capacity, picks...))
			}
		}
	}
	for _, name := range []string{"Block0", "Block1", "Block7", "Block8", "Block10", "Block22", "Inode0", "Inode1", "Inode7", "Inode8", "Inode10", "Inode22", "FreeBlock0", "FreeBlock1", "FreeBlock2", "FreeBlock7", "FreeBlock8", "FreeBlock11", "FreeBlock22", "FreeInode0", "FreeInode1", "FreeInode2", "FreeInode7", "FreeInode8", "FreeInode11", "FreeInode22", "Free0", "Free1", "Free7", "Free8", "Free22", "Format0", "Format1", "Format22"} {
		if told[name] == 0 {
			t.Errorf("no script has %s", name)
		}
	}
}

// TestAgain: R5, the same calls on another Alloc are answered in the same way.
func TestAgain(t *testing.T) {
	p := planned(t, 64, 60, 12, 30)
	for seed := range 10 {
		var first []answer
		for round := range 3 {
			x := dice(5000 + seed)
			picks := x.picks(40)
			r := newPair(mounted(t, filled(t, p, 0x5a), p, 2, picks...), mounted(t, filled(t, p, 0x5a), p, 2, picks...))
			for i := range 150 {
				name, n := x.next(p)
				got, _ := r.run(name, n, r.o, r.u)
				if round == 0 {
					first = append(first, got)
				} else if got != first[i] {
					t.Fatalf("seed %d, round %d, call %d: %v, was %v", seed, round, i, got, first[i])
				}
			}
		}
	}
}
