package file_test

import (
	"bytes"
	"fmt"
	"slices"
	"testing"

	"skerry/api"
	"skerry/file"
	"skerry/group"
)

// scribe is a script of calls on a world, and the sheets of its files: those that operations that have ended have left, and those of the open one.
type scribe struct {
	*world
	o           *group.Op
	x           *dice
	ended, open []*sheet
	told        map[string]int
	next        int
}

func newScribe(w *world, x *dice, told map[string]int) *scribe {
	s := &scribe{world: w, x: x, told: told}
	for range w.p.Inodes {
		s.ended = append(s.ended, newSheet(api.KindFree))
	}
	return s
}

func cloned(list []*sheet) []*sheet {
	var all []*sheet
	for _, s := range list {
		all = append(all, s.clone())
	}
	return all
}

func (s *scribe) tell(call string, e api.Errno) {
	s.told[fmt.Sprint(call, e)]++
}

// step does one call on both, and holds their answers against each other.
func (s *scribe) step() {
	s.t.Helper()
	if s.o == nil {
		s.between()
		return
	}
	i := s.x.below(min(s.p.Inodes, 6))
	switch n := s.x.below(40); {
	case n < 15:
		s.writes(i)
	case n < 21:
		s.reads(i)
	case n < 26:
		s.truncates(i)
	case n < 29:
		s.births(i)
	case n < 31:
		s.wantSheet(s.o, i, s.open[i])
	case n < 32:
		s.whole()
	case n < 33:
		s.wrong(i)
	default:
		s.over()
	}
}

// between is what may come while no operation is open.
func (s *scribe) between() {
	s.t.Helper()
	switch s.x.below(5) {
	case 0:
		s.commit()
	case 1:
		s.settle()
	}
	s.o = s.begin()
	s.open = cloned(s.ended)
}

// place answers a place in a file or behind it: often near its end, or at an edge.
func (s *scribe) place(i int) int {
	size, top := len(s.open[i].bytes), most(s.p)
	switch s.x.below(8) {
	case 0:
		list := inFile(s.p, edges(s.p))
		return list[s.x.below(len(list))]
	case 1:
		return s.x.below(top + 1)
	case 2:
		return min(top, size+s.x.below(3*s.p.Block))
	case 3:
		return size
	case 4:
		return s.x.below(12 * s.p.Block)
	}
	return s.x.below(size + 1)
}

// length answers how many bytes a call is of.
func (s *scribe) length() int {
	switch s.x.below(5) {
	case 0:
		list := lengths(s.p)
		return list[s.x.below(len(list))]
	case 1:
		return s.x.below(4097)
	}
	return s.x.below(3 * min(s.p.Block, 1000))
}

func (s *scribe) writes(i int) {
	s.t.Helper()
	at, n := s.place(i), s.length()
	s.next++
	data := text(n, s.next)
	if s.x.below(4) == 0 {
		clear(data)
	}
	free := s.free(s.o)
	before := s.seen(s.o)
	taken, wanted := s.open[i].write(s.p, at, data, free)
	e := file.Write(s.o, s.u, s.p, i, at, data)
	s.tell("Write", e)
	want(s.t, fmt.Sprintf("Write of %d at %d of inode %d", n, at, i), e, wanted)
	if now := s.free(s.o); now != free-taken {
		s.t.Errorf("%d blocks were taken, should be %d", free-now, taken)
	}
	if e != api.OK {
		s.wantSeen("a Write that was refused", s.o, before)
		if e == api.ErrNoSpace && len(before.kept) > 0 {
			s.told["no space, and some is kept"]++
		}
	}
}

func (s *scribe) reads(i int) {
	s.t.Helper()
	at, n := s.place(i), s.length()
	wanted, f := s.open[i].read(at, n)
	got, e := file.Read(s.o, s.u, s.p, i, at, n)
	s.tell("Read", e)
	if !bytes.Equal(got, wanted) || e != f {
		s.t.Errorf("Read(%d, %d, %d): %d, should be %d; %s", i, at, n, e, f, differ(got, wanted))
	}
}

func (s *scribe) truncates(i int) {
	s.t.Helper()
	size := s.place(i)
	if s.x.below(4) == 0 {
		size = 0
	}
	free, used := s.free(s.o), len(s.used(s.o))
	back, wanted := s.open[i].truncate(s.p, size)
	e := file.Truncate(s.o, s.u, s.p, i, size)
	s.tell("Truncate", e)
	want(s.t, fmt.Sprintf("Truncate of inode %d to %d", i, size), e, wanted)
	// What is given back is kept yet.
	if f, u := s.free(s.o), len(s.used(s.o)); f != free || u != used-back {
		s.t.Errorf("%d can be taken, %d are in use, should be %d, %d", f, u, free, used-back)
	}
}

// births lets a file be there, or be there no longer, if it is empty.
func (s *scribe) births(i int) {
	s.t.Helper()
	if s.open[i].kind == api.KindFree {
		kind := api.KindFile
		if s.x.below(4) == 0 {
			kind = api.KindDir
		}
		s.open[i] = newSheet(kind)
		s.born(s.o, i, kind)
		return
	}
	if len(s.open[i].bytes) == 0 {
		s.open[i] = newSheet(api.KindFree)
		s.put(s.o, i, api.Inode{})
	}
}

// wrong does calls that are refused.
func (s *scribe) wrong(i int) {
	s.t.Helper()
	before := s.seen(s.o)
	want(s.t, "Write", file.Write(s.o, s.u, s.p, i, most(s.p)-3, text(4, 1)), api.ErrLarge)
	want(s.t, "Write", file.Write(s.o, s.u, s.p, i, -1, text(4, 1)), api.ErrArg)
	want(s.t, "Truncate", file.Truncate(s.o, s.u, s.p, i, most(s.p)+1), api.ErrLarge)
	want(s.t, "Truncate", file.Truncate(s.o, s.u, s.p, s.p.Inodes, 0), api.ErrRange)
	s.wantSeen("calls that were refused", s.o, before)
}

// whole holds all files against their sheets; no block is two files'.
func (s *scribe) whole() {
	s.t.Helper()
	owner := map[int]int{}
	for i := range s.open {
		s.wantSheet(s.o, i, s.open[i])
		data, pointers := s.blocks(s.o, i)
		for _, b := range slices.Concat(data, pointers) {
			if j, has := owner[b]; has && b != 0 {
				s.t.Errorf("block %d is inode %d's and %d's", b, j, i)
			}
			owner[b] = i
		}
	}
	delete(owner, 0)
	if used := s.used(s.o); len(used) != len(owner) {
		s.t.Errorf("%d blocks are in use, the files have %d", len(used), len(owner))
	}
}

// over ends the operation, or gives it up. No block of a file has gone into the log.
func (s *scribe) over() {
	s.t.Helper()
	if s.x.below(4) == 0 {
		s.abort(s.o)
		s.o = nil
		return
	}
	var data []int
	for i, f := range s.open {
		if f.kind == api.KindFile {
			list, e := file.Dirty(s.o, s.u, i)
			want(s.t, "Dirty", e, api.OK)
			data = append(data, list...)
		}
	}
	e := s.o.End()
	s.tell("End", e)
	s.o = nil
	switch e {
	case api.OK:
		s.ended = s.open
		for _, b := range s.g.Blocks() {
			if slices.Contains(data, b) {
				s.t.Errorf("block %d of a file is logged", b)
			}
		}
	case api.ErrLarge:
		// The log is too small for the operation: nothing of it is done.
	default:
		s.t.Error("End:", e)
	}
}

// TestScripts: P14.1 to P14.4, and what follows: long scripts on several files and directories, that read, write, truncate, end, give up and commit, on devices that run full, with logs and caches of several sizes: all that is answered is what the sheets say.
func TestScripts(t *testing.T) {
	told := map[string]int{}
	for seed := range 64 {
		x := dice(seed)
		n := [][4]int{{64, 70, 4, 30}, {64, 60, 6, 20}, {64, 200, 8, 90}, {64, 700, 6, 120}, {128, 120, 9, 50}, {256, 100, 9, 40}, {1024, 60, 5, 20}, {4096, 60, 5, 20}}[seed%8]
		p := planned(t, n[0], n[1], n[2], n[3])
		w := formatted(t, p, []int{1, 2, 3, 5, 40, 200}[x.below(6)], x.picks(60)...)
		s := newScribe(w, &x, told)
		for i := range 300 {
			s.step()
			if t.Failed() {
				t.Fatalf("seed %d, call %d", seed, i)
			}
		}
	}
	for _, name := range []string{"Read0", "Read11", "Write0", "Write10", "Write11", "no space, and some is kept", "Truncate0", "Truncate11", "End0", "End5"} {
		if told[name] == 0 {
			t.Errorf("no script has %s", name)
		}
	}
}

// TestAgain: R5: the same calls on another device are answered in the same way, whatever the cache's size and its picks.
func TestAgain(t *testing.T) {
	p := planned(t, 64, 90, 6, 40)
	for seed := range 10 {
		var first string
		for capacity := range 4 {
			x, picks := dice(9000+seed), dice(capacity)
			s := newScribe(formatted(t, p, 1+3*capacity, picks.picks(60)...), &x, map[string]int{})
			for range 200 {
				s.step()
			}
			if s.o == nil {
				s.between()
			}
			var all []any
			for i := range p.Inodes {
				data, pointers := s.blocks(s.o, i)
				all = append(all, s.get(s.o, i), data, pointers)
			}
			if now := fmt.Sprint(all, s.told); capacity == 0 {
				first = now
			} else if now != first {
				t.Fatalf("seed %d: %s, was %s", seed, now, first)
			}
		}
	}
}

// TestCrash: behind a crash, files and directories are as they were at the last Commit, where nothing was done since; a directory also where operations have ended since that were not committed.
func TestCrash(t *testing.T) {
	p := planned(t, 64, 200, 8, 90)
	for seed := range 30 {
		x := dice(4000 + seed)
		w := formatted(t, p, 1+seed%5)
		s := newScribe(w, &x, map[string]int{})
		for range 150 {
			s.step()
		}
		if s.o != nil {
			s.over()
		}
		s.commit()
		if seed%2 == 0 {
			// Operations on directories alone.
			o := s.begin()
			for i, f := range s.ended {
				if f.kind == api.KindDir {
					file.Write(o, w.u, p, i, x.below(500), text(100, 99))
				}
			}
			w.end(o)
		}
		want(t, "Crash", w.d.Crash(x.picks(30)), api.OK)
		w = mounted(t, w.d, p, 3)
		o := w.begin()
		for i, f := range s.ended {
			w.wantSheet(o, i, f)
		}
		if t.Failed() {
			t.Fatal("seed", seed)
		}
	}
}
