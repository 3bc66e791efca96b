package file_test

import (
	"bytes"
	"fmt"
	"maps"
	"slices"
	"testing"

	"skerry/api"
	"skerry/file"
	"skerry/group"
)

// differ tells the first place at which two byte strings are not the same.
func differ(got, wanted []byte) string {
	for i := range min(len(got), len(wanted)) {
		if got[i] != wanted[i] {
			return fmt.Sprintf("%d and %d bytes, at %d %d, should be %d", len(got), len(wanted), i, got[i], wanted[i])
		}
	}
	return fmt.Sprintf("%d bytes, should be %d", len(got), len(wanted))
}

// way is how a pointer is reached, as chapter 5 counts; behind its end stands -1.
type way [3]int

// waysTo answers the pointers on the way to block number n of a file, from the inode on.
func waysTo(p api.Plan, n int) []way {
	per := p.Block / 2
	if n < 8 {
		return []way{{n, -1, -1}}
	}
	if n < 8+per {
		return []way{{8, -1, -1}, {8, n - 8, -1}}
	}
	k, m := (n-8-per)/per, (n-8-per)%per
	return []way{{9, -1, -1}, {9, k, -1}, {9, k, m}}
}

// isData answers whether a data block is named there, and not one with pointers.
func (w way) isData() bool {
	return w[0] < 8 || w[0] == 8 && w[1] >= 0 || w[2] >= 0
}

// least answers the first of the numbers on whose ways a pointer lies.
func (w way) least(p api.Plan) int {
	per := p.Block / 2
	switch {
	case w[0] < 8:
		return w[0]
	case w[0] == 8:
		return 8 + max(w[1], 0)
	}
	return 8 + per + max(w[1], 0)*per + max(w[2], 0)
}

// sheet is a file as its bytes, and the pointers of it that name blocks.
type sheet struct {
	kind  int
	bytes []byte
	has   map[way]struct{}
}

func newSheet(kind int) *sheet {
	return &sheet{kind: kind, has: map[way]struct{}{}}
}

func (s *sheet) clone() *sheet {
	return &sheet{s.kind, bytes.Clone(s.bytes), maps.Clone(s.has)}
}

// read answers what Read should.
func (s *sheet) read(at, n int) ([]byte, api.Errno) {
	if at < 0 || n < 0 {
		return nil, api.ErrArg
	}
	if n > 4096 {
		return nil, api.ErrLarge
	}
	if s.kind == api.KindFree {
		return nil, api.ErrNone
	}
	if at >= len(s.bytes) {
		return nil, api.OK
	}
	return s.bytes[at:min(at+n, len(s.bytes))], api.OK
}

// lacks answers the pointers that name no block yet, and must for n bytes at at.
func (s *sheet) lacks(p api.Plan, at, n int) map[way]struct{} {
	list := map[way]struct{}{}
	for place := at; place < at+n; place++ {
		for _, w := range waysTo(p, place/p.Block) {
			if _, has := s.has[w]; !has {
				list[w] = struct{}{}
			}
		}
	}
	return list
}

// write does what Write should, where so many blocks can be taken, and answers how many are.
func (s *sheet) write(p api.Plan, at int, data []byte, free int) (int, api.Errno) {
	if at < 0 {
		return 0, api.ErrArg
	}
	if len(data) > 4096 || at > most(p)-len(data) {
		return 0, api.ErrLarge
	}
	if s.kind == api.KindFree {
		return 0, api.ErrNone
	}
	if len(data) == 0 {
		return 0, api.OK
	}
	lacks := s.lacks(p, at, len(data))
	if len(lacks) > free {
		return 0, api.ErrNoSpace
	}
	maps.Copy(s.has, lacks)
	if end := at + len(data); end > len(s.bytes) {
		s.bytes = append(s.bytes, make([]byte, end-len(s.bytes))...)
	}
	copy(s.bytes[at:], data)
	return len(lacks), api.OK
}

// truncate does what Truncate should, and answers how many blocks are given back.
func (s *sheet) truncate(p api.Plan, size int) (int, api.Errno) {
	if size < 0 {
		return 0, api.ErrArg
	}
	if size > most(p) {
		return 0, api.ErrLarge
	}
	if s.kind == api.KindFree {
		return 0, api.ErrNone
	}
	s.bytes = append(s.bytes[:min(size, len(s.bytes)):min(size, len(s.bytes))], make([]byte, max(0, size-len(s.bytes)))...)
	before := len(s.has)
	maps.DeleteFunc(s.has, func(w way, _ struct{}) bool { return w.least(p)*p.Block >= size })
	return before - len(s.has), api.OK
}

// count answers how many data blocks and how many with pointers there are.
func (s *sheet) count() (data, pointers int) {
	for w := range s.has {
		if w.isData() {
			data++
		} else {
			pointers++
		}
	}
	return data, pointers
}

// wantSheet holds a file against its sheet: its bytes, its Size, which of its blocks are holes, and what Dirty answers.
func (w *world) wantSheet(o *group.Op, i int, s *sheet) {
	w.t.Helper()
	if s.kind == api.KindFree {
		if x := w.get(o, i); x != (api.Inode{}) {
			w.t.Errorf("inode %d: %v", i, x)
		}
		_, e := file.Dirty(o, w.u, i)
		want(w.t, "Dirty", e, api.ErrNone)
		return
	}
	w.wantAll(o, i, s.bytes)
	if kind := w.get(o, i).Kind; kind != s.kind {
		w.t.Errorf("file %d: Kind %d, should be %d", i, kind, s.kind)
	}
	data, pointers := w.blocks(o, i)
	var named []int
	for n, b := range data {
		ways := waysTo(w.p, n)
		if _, has := s.has[ways[len(ways)-1]]; has != (b != 0) {
			w.t.Errorf("file %d: number %d is %d, in use should be %v", i, n, b, has)
		}
		if b != 0 {
			named = append(named, b)
		}
	}
	slices.Sort(named)
	if d, p := s.count(); d != len(named) || p != len(pointers) {
		w.t.Errorf("file %d: %d data blocks, %d with pointers, should be %d, %d", i, len(named), len(pointers), d, p)
	}
	list, e := file.Dirty(o, w.u, i)
	if !slices.Equal(list, named) || e != api.OK {
		w.t.Errorf("Dirty: %v, %d, should be %v", list, e, named)
	}
}

// TestSheet: the sheet itself, by what the chapter's example says.
func TestSheet(t *testing.T) {
	p := planned(t, 64, 100, 10, 30)
	s := newSheet(api.KindFile)
	s.write(p, 3, []byte("ab"), 9)
	s.write(p, 200, []byte("c"), 9)
	if d, q := s.count(); d != 2 || q != 0 || len(s.bytes) != 201 {
		t.Error(d, q, len(s.bytes))
	}
	s.truncate(p, 4)
	s.truncate(p, 6)
	if !bytes.Equal(s.bytes, []byte("\x00\x00\x00a\x00\x00")) || len(s.has) != 1 {
		t.Error(s.bytes, s.has)
	}
	if n, e := s.write(p, 40*64, text(65, 1), 4); n != 4 || e != api.OK {
		t.Error(n, e)
	}
}
