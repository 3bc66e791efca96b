package tree_test

import (
	"bytes"
	"fmt"
	"slices"
	"strings"
	"testing"

	"skerry/api"
	"skerry/plan"
	"skerry/tree"
)

// made answers a tree that has the root alone.
func made(t *testing.T, most int) *tree.Tree {
	t.Helper()
	x, e := tree.New(most)
	if x == nil || e != api.OK {
		t.Fatalf("New(%d): %d", most, e)
	}
	return x
}

func planned(t *testing.T, block, blocks, inodes, log int) api.Plan {
	t.Helper()
	p, e := plan.Make(block, blocks, inodes, log)
	if e != api.OK {
		t.Fatal("plan.Make: ", e)
	}
	return p
}

// do does a call on a tree. All that it answers is copied, and what is handed in written over.
func do(x *tree.Tree, c call) (a answer) {
	switch c.name {
	case "create":
		a.e = x.Create(c.path)
	case "mkdir":
		a.e = x.Mkdir(c.path)
	case "link":
		a.e = x.Link(c.old, c.path)
	case "rename":
		a.e = x.Rename(c.old, c.path)
	case "unlink":
		a.e = x.Unlink(c.path)
	case "rmdir":
		a.e = x.Rmdir(c.path)
	case "stat":
		a.stat, a.e = x.Stat(c.path)
	case "list":
		a.list, a.e = x.List(c.path)
	case "open":
		a.f, a.e = x.Open(c.path)
	case "close":
		a.e = x.Close(c.f)
	case "read":
		var data []byte
		data, a.e = x.Read(c.f, c.at, c.n)
		a.data = string(data)
		blot(data)
	case "write":
		data := []byte(c.data)
		a.e = x.Write(c.f, c.at, data)
		blot(data)
	case "truncate":
		a.e = x.Truncate(c.f, c.n)
	default:
		panic(c.name)
	}
	return a
}

// blot writes over bytes, and the room behind them.
func blot(data []byte) {
	data = data[:cap(data)]
	for i := range data {
		data[i] ^= 0xa5
	}
}

func sameNodes(a, b []api.Node) bool {
	return slices.EqualFunc(a, b, func(x, y api.Node) bool {
		return x.Path == y.Path && x.Kind == y.Kind && x.Inode == y.Inode && x.Links == y.Links && x.Size == y.Size && bytes.Equal(x.Data, y.Data)
	})
}

// show tells nodes in short.
func show(list []api.Node) string {
	var b strings.Builder
	for _, n := range list {
		fmt.Fprintf(&b, " %s:%d,%d,%d,%d,%.40q", n.Path, n.Kind, n.Inode, n.Links, n.Size, n.Data)
	}
	return b.String()
}

// world is a tree and the model of what it should be.
type world struct {
	t *testing.T
	x *tree.Tree
	m *model
}

// begun answers a world behind these calls, that are all to be OK.
func begun(t *testing.T, most int, lines ...string) *world {
	t.Helper()
	w := &world{t, made(t, most), newModel(most)}
	w.ok(lines...)
	return w
}

// holds holds all that there is against the model.
func (w *world) holds(behind any) {
	w.t.Helper()
	if got, wanted := w.x.Dump(), w.m.nodes(); !sameNodes(got, wanted) {
		w.t.Fatalf("behind %v:%s\nshould be%s", behind, show(got), show(wanted))
	}
}

// both does a call on both, and holds the answers against each other.
func (w *world) both(c call) answer {
	w.t.Helper()
	got, wanted := do(w.x, c), w.m.do(c)
	if !got.same(wanted) {
		w.t.Fatalf("%v: %v, should be %v", c, got, wanted)
	}
	return got
}

// call does a call that is to answer this error. One that is not OK has zero values beside it, and changes nothing.
func (w *world) call(c call, e api.Errno) answer {
	w.t.Helper()
	before := w.x.Dump()
	got := do(w.x, c)
	if got.e != e {
		w.t.Errorf("%v: %d, should be %d", c, got.e, e)
	}
	if e != api.OK {
		if !got.same(answer{e: got.e}) {
			w.t.Errorf("%v: %v beside an error", c, got)
		}
		if !sameNodes(w.x.Dump(), before) {
			w.t.Errorf("%v has changed something:%s\nwas%s", c, show(w.x.Dump()), show(before))
		}
	}
	if wanted := w.m.do(c); !got.same(wanted) {
		w.t.Fatalf("%v: %v, should be %v", c, got, wanted)
	}
	w.holds(c)
	return got
}

// want does the call that a line tells.
func (w *world) want(line string, e api.Errno) answer {
	w.t.Helper()
	return w.call(parse(line), e)
}

// ok does calls that are to answer OK.
func (w *world) ok(lines ...string) {
	w.t.Helper()
	for _, line := range lines {
		w.want(line, api.OK)
	}
}

// stat holds what is told of a path.
func (w *world) stat(path string, kind, inode, links, size int) {
	w.t.Helper()
	wanted := api.Stat{Kind: kind, Inode: inode, Links: links, Size: size}
	if got := w.want("stat "+path, api.OK).stat; got != wanted {
		w.t.Errorf("Stat(%s): %v, should be %v", path, got, wanted)
	}
}

// list holds the entries of a directory, told as name:kind:inode.
func (w *world) list(path string, wanted ...string) {
	w.t.Helper()
	var got []string
	for _, x := range w.want("list "+path, api.OK).list {
		got = append(got, fmt.Sprintf("%s:%d:%d", x.Name, x.Kind, x.Inode))
	}
	if !slices.Equal(got, wanted) {
		w.t.Errorf("List(%s): %q, should be %q", path, got, wanted)
	}
}

// read holds all bytes of an open file, in pieces of MaxIO.
func (w *world) read(f int, wanted string) {
	w.t.Helper()
	var got strings.Builder
	for {
		piece := w.call(call{name: "read", f: f, at: got.Len(), n: api.MaxIO}, api.OK).data
		if piece == "" {
			break
		}
		got.WriteString(piece)
	}
	if got.String() != wanted {
		w.t.Errorf("handle %d: %.200q, should be %.200q", f, got.String(), wanted)
	}
}

// dice answers numbers that look random, the same ones each time.
type dice uint64

func (d *dice) below(n int) int {
	*d = *d*6364136223846793005 + 1442695040888963407
	x := uint64(*d)
	x ^= x >> 31
	x *= 0x9e3779b97f4a7c15
	return int((x >> 33) % uint64(n))
}

func pick[T any](d *dice, list []T) T {
	return list[d.below(len(list))]
}

// repeat answers a path of a name, that many times.
func repeat(name string, n int) string {
	return strings.Repeat("/"+name, n)
}
