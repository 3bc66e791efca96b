package dir_test

import (
	"bytes"
	"fmt"
	"slices"
	"sort"
	"testing"

	"skerry/api"
	"skerry/dir"
	"skerry/group"
)

// nameOf answers names by numbers: no two are the same, and they are of all lengths that names have, from three bytes on.
func nameOf(k int) string {
	const signs = "zy_x-9876.m543n210abcdefghijk"
	digits := string([]byte{signs[k%29], signs[k/29%29], signs[k/29/29%29]})
	return (digits + "-.middle_09")[:3+k%11]
}

// page is what a directory should be: its names, as they stand.
type page []api.Dirent

// pageOf answers so many names.
func pageOf(n int) page {
	var g page
	for k := range n {
		g = append(g, api.Dirent{Inode: 1 + k*37%65535, Name: nameOf(k)})
	}
	return g
}

// bytes answers the bytes that stand for the names, laid by hand.
func (g page) bytes() []byte {
	data := make([]byte, 16*len(g))
	for n, x := range g {
		data[16*n], data[16*n+1] = byte(x.Inode), byte(x.Inode>>8)
		copy(data[16*n+2:16*n+15], x.Name)
	}
	return data
}

// place answers where a name stands, or -1.
func (g page) place(name string) int {
	for n := range g {
		if g[n].Name == name {
			return n
		}
	}
	return -1
}

// sorted answers what List should.
func (g page) sorted() page {
	list := slices.Clone(g)
	sort.Slice(list, func(i, j int) bool { return bytes.Compare([]byte(list[i].Name), []byte(list[j].Name)) < 0 })
	return list
}

// blocks answers how many blocks a directory of so many names has, with and without those with pointers.
func blocks(p api.Plan, names int) (data, all int) {
	per := p.Block / 2
	data = (16*names + p.Block - 1) / p.Block
	all = data
	if data > 8 {
		all++
	}
	if data > 8+per {
		all += 1 + (data-8-per+per-1)/per
	}
	return data, all
}

// find, insert, set and remove do what the calls of these names should. How many blocks can be taken is told to insert.
func (g page) find(name string) (int, api.Errno) {
	n := g.place(name)
	if n < 0 {
		return 0, api.ErrNone
	}
	return g[n].Inode, api.OK
}

func (g *page) insert(p api.Plan, name string, i, free int) api.Errno {
	if g.place(name) >= 0 {
		return api.ErrExists
	}
	if 16*len(*g)+16 > most(p) {
		return api.ErrLarge
	}
	_, now := blocks(p, len(*g))
	_, then := blocks(p, len(*g)+1)
	if then-now > free {
		return api.ErrNoSpace
	}
	*g = append(*g, api.Dirent{Inode: i, Name: name})
	return api.OK
}

func (g page) set(name string, i int) api.Errno {
	n := g.place(name)
	if n < 0 {
		return api.ErrNone
	}
	g[n].Inode = i
	return api.OK
}

func (g *page) remove(name string) api.Errno {
	n := g.place(name)
	if n < 0 {
		return api.ErrNone
	}
	last := len(*g) - 1
	(*g)[n] = (*g)[last]
	*g = (*g)[:last]
	return api.OK
}

// lay lets a directory that has nothing have the names of a page, past package dir.
func (w *world) lay(o *group.Op, d int, g page) {
	w.t.Helper()
	w.write(o, d, 0, g.bytes())
}

// insert, set, remove are calls that must be allowed.
func (w *world) insert(o *group.Op, d int, name string, i int) {
	w.t.Helper()
	want(w.t, fmt.Sprintf("Insert of %q", name), dir.Insert(o, w.u, w.p, d, name, i), api.OK)
}

func (w *world) set(o *group.Op, d int, name string, i int) {
	w.t.Helper()
	want(w.t, fmt.Sprintf("Set of %q", name), dir.Set(o, w.u, w.p, d, name, i), api.OK)
}

func (w *world) remove(o *group.Op, d int, name string) {
	w.t.Helper()
	want(w.t, fmt.Sprintf("Remove of %q", name), dir.Remove(o, w.u, w.p, d, name), api.OK)
}

// wantFind holds what Find answers against what it should.
func (w *world) wantFind(o *group.Op, d int, name string, wanted int, e api.Errno) {
	w.t.Helper()
	i, f := dir.Find(o, w.u, w.p, d, name)
	if i != wanted || f != e {
		w.t.Errorf("Find of %q: %d, %d, should be %d, %d", name, i, f, wanted, e)
	}
}

// wantList holds what List answers against what it should.
func (w *world) wantList(o *group.Op, d int, wanted page) {
	w.t.Helper()
	list, e := dir.List(o, w.u, w.p, d)
	if !slices.Equal(list, wanted) || e != api.OK {
		w.t.Errorf("List: %v, %d, should be %v", list, e, wanted)
	}
}

// wantBytes holds the bytes of a directory, its Size and how many blocks it has against its page.
func (w *world) wantBytes(o *group.Op, d int, g page) {
	w.t.Helper()
	if got, wanted := w.all(o, d), g.bytes(); !bytes.Equal(got, wanted) {
		w.t.Errorf("directory %d is %q, should be %q", d, got, wanted)
	}
	x := w.get(o, d)
	if x.Size != 16*len(g) || x.Kind != api.KindDir || x.Links != 1 {
		w.t.Errorf("directory %d is %v, should have %d names", d, x, len(g))
	}
	list, pointers := w.blocks(o, d)
	data, all := blocks(w.p, len(g))
	if len(list) != data || slices.Contains(list, 0) || len(list)+len(pointers) != all {
		w.t.Errorf("directory %d of %d names has the blocks %v, %v, should have %d, %d", d, len(g), list, pointers, data, all-data)
	}
	// What a directory grows into must be 0 already.
	if len(list) > 0 {
		block, e := o.Read(list[len(list)-1])
		want(w.t, "Read", e, api.OK)
		if rest := block[(x.Size-1)%w.p.Block+1:]; !bytes.Equal(rest, make([]byte, len(rest))) {
			w.t.Errorf("directory %d: %q stands behind its end", d, rest)
		}
	}
}

// wantPage holds all that is told of a directory against its page; of many names, some are sought.
func (w *world) wantPage(o *group.Op, d int, g page) {
	w.t.Helper()
	w.wantBytes(o, d, g)
	w.wantList(o, d, g.sorted())
	step := 1 + len(g)/60
	for n, x := range g {
		if n%step == 0 || n == len(g)-1 {
			w.wantFind(o, d, x.Name, x.Inode, api.OK)
		}
	}
	w.wantFind(o, d, "no-such", 0, api.ErrNone)
}

// TestPage: the page itself, by what the chapters' examples say.
func TestPage(t *testing.T) {
	p := planned(t, 64, 100, 10, 8)
	var g page
	for _, name := range []string{"b", "a", "c"} {
		want(t, "insert", g.insert(p, name, 3, 9), api.OK)
	}
	want(t, "insert", g.insert(p, "a", 3, 9), api.ErrExists)
	if s := g.sorted(); s[0].Name != "a" || s[1].Name != "b" || s[2].Name != "c" {
		t.Error(s)
	}
	want(t, "remove", g.remove("b"), api.OK)
	if len(g) != 2 || g[0].Name != "c" || g[1].Name != "a" {
		t.Error(g)
	}
	if b := (page{{Inode: 3, Name: "ab"}}).bytes(); string(b) != "\x03\x00ab"+string(make([]byte, 12)) {
		t.Error(b)
	}
	for n, wanted := range map[int][2]int{0: {0, 0}, 1: {1, 1}, 4: {1, 1}, 5: {2, 2}, 32: {8, 8}, 33: {9, 10}, 160: {40, 41}, 161: {41, 44}} {
		if data, all := blocks(p, n); data != wanted[0] || all != wanted[1] {
			t.Error(n, data, all)
		}
	}
	names := map[string]int{}
	for k := range 20000 {
		name := nameOf(k)
		if names[name]++; names[name] > 1 || len(name) > 13 {
			t.Fatal(k, name)
		}
	}
}
