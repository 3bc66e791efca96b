package dir_test

import (
	"bytes"
	"fmt"
	"slices"
	"testing"

	"skerry/api"
	"skerry/dir"
	"skerry/file"
	"skerry/group"
)

// things is what the inodes of a device should be: a page for each directory, bytes for the file.
type things struct {
	pages map[int]page
	text  []byte
}

func (s things) clone() things {
	pages := map[int]page{}
	for d, g := range s.pages {
		pages[d] = slices.Clone(g)
	}
	return things{pages, bytes.Clone(s.text)}
}

// scribe is a script of calls on a world, and what should be there: what operations that have ended have left, and what the open one has made of it. Inode 1 is the file, all others from 2 on are directories.
type scribe struct {
	*world
	o           *group.Op
	x           *dice
	ended, open things
	told        map[string]int
	kinds       int // of how many kinds names are: the fewer, the more are there already
}

func newScribe(w *world, x *dice, told map[string]int) *scribe {
	s := &scribe{world: w, x: x, told: told, ended: things{pages: map[int]page{}}, kinds: []int{3, 12, 60, 400}[x.below(4)]}
	o := w.begin()
	w.born(o, 1, api.KindFile)
	for d := 2; d < w.p.Inodes; d++ {
		w.born(o, d, api.KindDir)
		s.ended.pages[d] = nil
	}
	w.end(o)
	return s
}

// step does one call on both, and holds their answers against each other.
func (s *scribe) step() {
	s.t.Helper()
	if s.o == nil {
		s.between()
		return
	}
	d := 2 + s.x.below(s.p.Inodes-2)
	switch n := s.x.below(40); {
	case n < 14:
		s.inserts(d)
	case n < 18:
		s.sets(d)
	case n < 24:
		s.removes(d)
	case n < 28:
		s.finds(d)
	case n < 31:
		s.wantList(s.o, d, s.open.pages[d].sorted())
	case n < 33:
		s.writes()
	case n < 34:
		s.whole()
	case n < 35:
		s.wrong(d)
	case n < 36:
		s.empties(d)
	default:
		s.over()
	}
}

// between is what may come while no operation is open.
func (s *scribe) between() {
	s.t.Helper()
	switch s.x.below(5) {
	case 0:
		s.commit()
	case 1:
		s.settle()
	}
	s.o = s.begin()
	s.open = s.ended.clone()
}

// name answers a name that may be there or not.
func (s *scribe) name(d int) string {
	if g := s.open.pages[d]; len(g) > 0 && s.x.below(3) == 0 {
		return g[s.x.below(len(g))].Name
	}
	return nameOf(s.x.below(s.kinds))
}

func (s *scribe) number() int {
	if s.x.below(4) == 0 {
		return []int{1, 65535, 256, 255}[s.x.below(4)]
	}
	return 1 + s.x.below(65535)
}

func (s *scribe) tell(call string, e, wanted api.Errno) {
	s.t.Helper()
	s.told[fmt.Sprint(call, e)]++
	want(s.t, call, e, wanted)
}

func (s *scribe) inserts(d int) {
	s.t.Helper()
	for range 1 + s.x.below(6) {
		name, i := s.name(d), s.number()
		g := s.open.pages[d]
		free, before := s.free(s.o), s.used(s.o)
		wanted := g.insert(s.p, name, i, free)
		_, was := blocks(s.p, len(s.open.pages[d]))
		_, now := blocks(s.p, len(g))
		s.open.pages[d] = g
		s.tell("Insert", dir.Insert(s.o, s.u, s.p, d, name, i), wanted)
		if f, u := s.free(s.o), len(s.used(s.o)); f != free-(now-was) || u != len(before)+now-was {
			s.t.Errorf("%d can be taken, %d are in use, should be %d, %d", f, u, free-(now-was), len(before)+now-was)
		}
	}
	s.wantBytes(s.o, d, s.open.pages[d])
}

func (s *scribe) sets(d int) {
	s.t.Helper()
	name, i := s.name(d), s.number()
	wanted := s.open.pages[d].set(name, i)
	s.tell("Set", dir.Set(s.o, s.u, s.p, d, name, i), wanted)
	s.wantBytes(s.o, d, s.open.pages[d])
}

func (s *scribe) removes(d int) {
	s.t.Helper()
	name := s.name(d)
	g := s.open.pages[d]
	free := s.free(s.o)
	wanted := g.remove(name)
	s.open.pages[d] = g
	s.tell("Remove", dir.Remove(s.o, s.u, s.p, d, name), wanted)
	s.wantBytes(s.o, d, g)
	// What is given back is kept yet.
	if f := s.free(s.o); f != free {
		s.t.Errorf("%d blocks can be taken, should be %d", f, free)
	}
}

func (s *scribe) finds(d int) {
	s.t.Helper()
	name := s.name(d)
	i, e := s.open.pages[d].find(name)
	s.wantFind(s.o, d, name, i, e)
	s.told[fmt.Sprint("Find", e)]++
}

// empties removes all names of a directory.
func (s *scribe) empties(d int) {
	s.t.Helper()
	for _, x := range s.open.pages[d].sorted() {
		s.remove(s.o, d, x.Name)
	}
	s.open.pages[d] = nil
	s.wantBytes(s.o, d, nil)
}

// writes lets the file have other bytes, or fewer.
func (s *scribe) writes() {
	s.t.Helper()
	at, n := s.x.below(600), s.x.below(200)
	if s.x.below(3) == 0 {
		want(s.t, "Truncate", file.Truncate(s.o, s.u, s.p, 1, at), api.OK)
		s.open.text = append(s.open.text[:min(at, len(s.open.text))], make([]byte, max(0, at-len(s.open.text)))...)
		return
	}
	data := bytes.Repeat([]byte{byte(1 + s.x.below(255))}, n)
	e := file.Write(s.o, s.u, s.p, 1, at, data)
	if e == api.ErrNoSpace {
		return
	}
	want(s.t, "Write", e, api.OK)
	if end := at + n; n > 0 && end > len(s.open.text) {
		s.open.text = append(s.open.text, make([]byte, end-len(s.open.text))...)
	}
	copy(s.open.text[min(at, len(s.open.text)):], data)
}

// wrong does calls that are refused.
func (s *scribe) wrong(d int) {
	s.t.Helper()
	before := s.seen(s.o)
	for c, e := range map[call]api.Errno{
		{"Insert", d, "..", 0}: api.ErrName, {"Insert", d, "new", 0}: api.ErrValue, {"Set", d, "new", 65536}: api.ErrValue, {"Remove", s.p.Inodes, "new", 0}: api.ErrRange,
		{"Find", 0, "new", 0}: api.ErrNone, {"Insert", 0, "new", 1}: api.ErrNone, {"Insert", 1, "new", 1}: api.ErrNotDir, {"List", 1, "", 0}: api.ErrNotDir, {"Remove", 1, nameOf(0), 0}: api.ErrNotDir,
	} {
		want(s.t, fmt.Sprint(c), c.run(s.t, s.o, s.u, s.p), e)
	}
	s.wantSeen("calls that were refused", s.o, before)
}

// holds holds all directories and the file against what they should be; no block is two inodes'.
func (w *world) holds(o *group.Op, all things) {
	w.t.Helper()
	owner := map[int]int{}
	for i := range w.p.Inodes {
		data, pointers := w.blocks(o, i)
		for _, b := range slices.Concat(data, pointers) {
			if j, has := owner[b]; has && b != 0 {
				w.t.Errorf("block %d is inode %d's and %d's", b, j, i)
			}
			owner[b] = i
		}
		if g, has := all.pages[i]; has {
			w.wantPage(o, i, g)
		}
	}
	delete(owner, 0)
	if used := w.used(o); len(used) != len(owner) {
		w.t.Errorf("%d blocks are in use, the inodes have %d", len(used), len(owner))
	}
	if now := w.all(o, 1); !bytes.Equal(now, all.text) {
		w.t.Errorf("the file is %q, should be %q", now, all.text)
	}
}

func (s *scribe) whole() {
	s.t.Helper()
	s.holds(s.o, s.open)
}

// over ends the operation, or gives it up. All blocks of directories that it has written are the group's.
func (s *scribe) over() {
	s.t.Helper()
	if s.x.below(4) == 0 {
		s.abort(s.o)
		s.o = nil
		return
	}
	var mine []int
	for d := range s.open.pages {
		data, pointers := s.blocks(s.o, d)
		mine = slices.Concat(mine, data, pointers)
	}
	e := s.o.End()
	s.told[fmt.Sprint("End", e)]++
	s.o = nil
	switch e {
	case api.OK:
		s.ended = s.open
		for _, b := range s.c.Dirty() {
			if slices.Contains(mine, b) {
				s.t.Errorf("block %d of a directory went past the log", b)
			}
		}
	case api.ErrLarge:
		// The log is too small for the operation: nothing of it is done.
	default:
		s.t.Error("End:", e)
	}
}

// TestScripts: P15.1 to P15.3, and what follows: long scripts on several directories and a file, that find, insert, set, remove, list, end, give up and commit, on devices that run full, with logs and caches of several sizes: all that is answered is what the pages say.
func TestScripts(t *testing.T) {
	told := map[string]int{}
	for seed := range 64 {
		x := dice(seed)
		n := [][4]int{{64, 70, 4, 30}, {64, 60, 6, 20}, {64, 200, 8, 90}, {64, 700, 4, 120}, {128, 60, 9, 20}, {256, 100, 9, 40}, {1024, 60, 5, 20}, {4096, 30, 5, 9}}[seed%8]
		p := planned(t, n[0], n[1], n[2], n[3])
		w := formatted(t, p, []int{1, 2, 3, 5, 40, 200}[x.below(6)], x.picks(60)...)
		s := newScribe(w, &x, told)
		for i := range 400 {
			s.step()
			if t.Failed() {
				t.Fatalf("seed %d, call %d", seed, i)
			}
		}
	}
	for _, name := range []string{"Find0", "Find11", "Insert0", "Insert10", "Insert12", "Set0", "Set11", "Remove0", "Remove11", "End0", "End5"} {
		if told[name] == 0 {
			t.Errorf("no script has %s", name)
		}
	}
}

// TestAgain: R5: the same calls on another device are answered in the same way, whatever the cache's size and its picks.
func TestAgain(t *testing.T) {
	p := planned(t, 64, 90, 6, 40)
	for seed := range 10 {
		var first string
		for capacity := range 4 {
			x, picks := dice(9000+seed), dice(capacity)
			s := newScribe(formatted(t, p, 1+3*capacity, picks.picks(60)...), &x, map[string]int{})
			for range 200 {
				s.step()
			}
			if s.o == nil {
				s.between()
			}
			var all []any
			for i := range p.Inodes {
				data, pointers := s.blocks(s.o, i)
				list, e := dir.List(s.o, s.u, p, i)
				all = append(all, s.get(s.o, i), data, pointers, list, e)
			}
			if now := fmt.Sprint(all, s.told); capacity == 0 {
				first = now
			} else if now != first {
				t.Fatalf("seed %d: %s, was %s", seed, now, first)
			}
		}
	}
}

// TestCrash: behind a crash, directories are as they were at the last Commit that is done, whatever operations on them have ended since without one.
func TestCrash(t *testing.T) {
	p := planned(t, 64, 200, 8, 90)
	for seed := range 30 {
		x := dice(4000 + seed)
		w := formatted(t, p, 1+seed%5)
		s := newScribe(w, &x, map[string]int{})
		for range 150 {
			s.step()
		}
		if s.o != nil {
			s.over()
		}
		s.commit()
		if seed%2 == 0 {
			o := s.begin()
			for d, g := range s.ended.pages {
				dir.Insert(o, w.u, p, d, "late", 3)
				if len(g) > 0 {
					w.remove(o, d, g[0].Name)
				}
			}
			w.end(o)
		}
		want(t, "Crash", w.d.Crash(x.picks(30)), api.OK)
		w = mounted(t, w.d, p, 3)
		o := w.begin()
		w.holds(o, s.ended)
		if t.Failed() {
			t.Fatal("seed", seed)
		}
	}
}
