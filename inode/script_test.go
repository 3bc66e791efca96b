package inode_test

import (
	"bytes"
	"fmt"
	"slices"
	"testing"

	"skerry/api"
)

// scribe is a script on a world, and the book of it.
type scribe struct {
	both
	x     *dice
	files int
	told  map[string]int
	next  byte
}

// step does one call on both, and holds their answers against each other.
func (s *scribe) step() {
	s.t.Helper()
	if s.o == nil {
		s.between()
		return
	}
	i := 1 + s.x.below(s.files)
	switch n := s.x.below(40); {
	case n < 14:
		s.makes(i)
	case n < 18:
		index := s.index()
		b, e := s.u.Find(s.o, i, index)
		s.tell("Find", e)
		wantNumber(s.t, fmt.Sprint("Find ", i, index), b, e, s.k.find(i, index), api.OK)
	case n < 24:
		s.cuts(i)
	case n < 30:
		s.puts(i)
	case n < 33:
		s.same(i)
	case n < 35:
		s.all()
	default:
		s.over()
	}
}

// between is what may come while no operation is open.
func (s *scribe) between() {
	s.t.Helper()
	switch s.x.below(5) {
	case 0:
		s.commit()
		clear(s.k.logged)
	case 1:
		s.settle()
		clear(s.k.logged)
	}
	s.o = s.begin()
	s.k.begin()
}

// index answers a number of a file's blocks, often one of the edges, or near the beginning.
func (s *scribe) index() int {
	switch s.x.below(3) {
	case 0:
		list := inFile(s.p, edges(s.p))
		return list[s.x.below(len(list))]
	case 1:
		return s.x.below(min(most(s.p), 60))
	}
	return s.x.below(most(s.p))
}

// makes makes a number, and often writes the block, as data.
func (s *scribe) makes(i int) {
	s.t.Helper()
	index := s.index()
	b, fresh, e := s.u.Make(s.o, i, index)
	s.tell("Make", e)
	was := s.k.find(i, index)
	wanted, _, f := s.k.make(i, index)
	wantNumber(s.t, fmt.Sprint("Make ", i, index), b, e, wanted, f)
	wantNumber(s.t, "fresh", fresh, e, was == 0 && f == api.OK, f)
	if e == api.OK && s.x.below(3) != 0 {
		s.next++
		want(s.t, "Data", s.o.Data(b, bytes.Repeat([]byte{s.next}, s.p.Block)), api.OK)
		s.k.open.bytes[b] = s.next
	}
}

// cuts cuts a file, to any size.
func (s *scribe) cuts(i int) {
	s.t.Helper()
	size := s.index() * s.p.Block
	switch s.x.below(4) {
	case 0:
		size = 0
	case 1:
		size = min(size+s.x.below(s.p.Block), most(s.p)*s.p.Block)
	case 2:
		size = s.x.below(12 * s.p.Block)
	}
	e := s.u.Cut(s.o, i, size)
	s.tell("Cut", e)
	freed, f := s.k.cut(i, size)
	want(s.t, fmt.Sprint("Cut ", i, size), e, f)
	for _, b := range freed {
		if !s.g.Kept(b) {
			s.t.Error("not freed:", b)
		}
		delete(s.k.open.bytes, b)
	}
}

// puts puts an inode with the blocks that it had, or lets it be free, mostly one without blocks.
func (s *scribe) puts(i int) {
	s.t.Helper()
	r := s.k.open.inodes[i]
	if s.x.below(4) == 0 && (len(r.named) == 0 || s.x.below(8) == 0) {
		s.put(s.o, i, api.Inode{})
		s.k.forget(i)
		return
	}
	x := s.k.get(i)
	x.Kind, x.Links, x.Size = 1+s.x.below(2), s.x.below(65536), s.x.below(1<<32)
	s.put(s.o, i, x)
	s.k.put(i, x.Kind, x.Links, x.Size)
}

// all holds all files against the book, and what stands in their blocks, none of which is another's.
func (s *scribe) all() {
	s.t.Helper()
	owner := map[int]int{}
	for i := range s.p.Inodes {
		s.same(i)
		data, pointers, _ := s.u.Blocks(s.o, i)
		for _, b := range slices.Concat(data, pointers) {
			if j, has := owner[b]; has && b != 0 {
				s.t.Errorf("block %d is inode %d's and %d's", b, j, i)
			}
			owner[b] = i
		}
	}
	for b, fill := range s.k.open.bytes {
		if got := s.read(s.o, b); !bytes.Equal(got, bytes.Repeat([]byte{fill}, s.p.Block)) {
			s.t.Errorf("block %d is %d, should be %d", b, got, fill)
		}
	}
}

// over ends the operation, or gives it up.
func (s *scribe) over() {
	s.t.Helper()
	if s.x.below(4) == 0 {
		s.abort(s.o)
		s.k.open = nil
	} else {
		e := s.o.End()
		s.tell("End", e)
		want(s.t, "End", e, s.k.end())
		if got := s.g.Blocks(); !slices.Equal(got, s.k.logged.list()) {
			s.t.Errorf("the group has %v, should have %v", got, s.k.logged.list())
		}
	}
	s.o = nil
}

func (s *scribe) tell(call string, e api.Errno) {
	s.told[fmt.Sprint(call, e)]++
}

// TestScripts: P13.1 to P13.4, and what follows: long scripts on several files, that make, find, cut, put, end, give up and commit, on devices that run full, with logs and caches of several sizes: all that is answered is what the maps say, and no block is two files'.
func TestScripts(t *testing.T) {
	told := map[string]int{}
	for seed := range 160 {
		x := dice(seed)
		n := [][4]int{{64, 40, 4, 12}, {64, 60, 6, 20}, {64, 200, 8, 40}, {64, 1300, 6, 60}, {128, 120, 9, 30}, {128, 1200, 5, 40}, {256, 100, 9, 20}, {1024, 60, 5, 12}, {4096, 60, 5, 20}, {64, 30, 3, 8}}[seed%10]
		p := planned(t, n[0], n[1], n[2], n[3])
		w := formatted(t, p, []int{1, 2, 3, 5, 40}[x.below(5)], x.picks(60)...)
		s := &scribe{both: both{world: w, k: newBook(w)}, x: &x, files: p.Inodes - 1, told: told}
		for i := range 300 {
			s.step()
			if t.Failed() {
				t.Fatalf("seed %d, call %d", seed, i)
			}
		}
	}
	for _, name := range []string{"Make0", "Make4", "Make10", "Find0", "Cut0", "Cut4", "End0", "End5"} {
		if told[name] == 0 {
			t.Errorf("no script has %s", name)
		}
	}
}

// TestAgain: R5, the same calls on another Table are answered in the same way, whatever the cache's size and its picks.
func TestAgain(t *testing.T) {
	p := planned(t, 64, 80, 6, 20)
	for seed := range 10 {
		var first string
		for capacity := range 4 {
			x := dice(9000 + seed)
			picks := dice(capacity)
			w := formatted(t, p, 1+3*capacity, picks.picks(60)...)
			s := &scribe{both: both{world: w, k: newBook(w)}, x: &x, files: p.Inodes - 1, told: map[string]int{}}
			for range 200 {
				s.step()
			}
			if s.o == nil {
				s.between()
			}
			var all []any
			for i := range p.Inodes {
				data, pointers, e := w.u.Blocks(s.o, i)
				all = append(all, w.get(s.o, i), data, pointers, e)
			}
			if now := fmt.Sprint(all, s.told); capacity == 0 {
				first = now
			} else if now != first {
				t.Fatalf("seed %d: %s, was %s", seed, now, first)
			}
		}
	}
}

// TestCrash: behind a crash, files are as they were at the last Commit that answered OK.
func TestCrash(t *testing.T) {
	p := planned(t, 64, 200, 8, 40)
	for seed := range 20 {
		x := dice(4000 + seed)
		w := formatted(t, p, 1+seed%5)
		s := &scribe{both: both{world: w, k: newBook(w)}, x: &x, files: p.Inodes - 1, told: map[string]int{}}
		for range 150 {
			s.step()
		}
		if s.o != nil {
			s.over()
		}
		s.commit()
		s.between()
		for range 5 {
			// Nothing of this is committed: the log has room for one operation.
			index := s.index()
			w.u.Make(s.o, 1, index)
			w.u.Cut(s.o, 2, 0)
		}
		want(t, "Crash", w.d.Crash(x.picks(30)), api.OK)
		w = mounted(t, w.d, p, 3)
		s.k.kept = w.g.Kept
		s.k.begin()
		r := both{w, s.k, w.begin()}
		for i := range p.Inodes {
			r.same(i)
		}
	}
}
