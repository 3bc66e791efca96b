package fsys_test

import (
	"bytes"
	"fmt"
	"slices"
	"testing"

	"skerry/api"
	"skerry/audit"
	"skerry/device"
	"skerry/fsys"
	"skerry/tree"
	"skerry/walk"
)

// life is what a file system does from a Mount to a crash: the trees that its calls have made, one behind the other.
type life struct {
	t     *testing.T
	p     api.Plan
	d     *device.Device
	s     *fsys.FS
	m     *tree.Tree
	trees [][]api.Node
	// floor is the last tree whose names have arrived, all the last one of which all has.
	floor, all int
	// synced is, of each file, the last tree of which its bytes have arrived.
	synced map[one]int
}

// one is a file in a row of trees: its inode, and the first tree that has it.
type one struct{ inode, born int }

// newLife answers one that begins with a Mount of d, which is to have the tree of m.
func newLife(t *testing.T, p api.Plan, d *device.Device, m *tree.Tree, capacity int, picks []int) *life {
	t.Helper()
	return &life{t: t, p: p, d: d, s: mount(t, d, capacity, picks...), m: m, trees: [][]api.Node{m.Dump()}, synced: map[one]int{}}
}

func (y *life) last() int {
	return len(y.trees) - 1
}

// note takes the tree as one that calls have made.
func (y *life) note() {
	if now := y.m.Dump(); !sameNodes(now, y.trees[y.last()]) {
		y.trees = append(y.trees, now)
	}
}

// inTree answers a file of a tree, by its inode.
func inTree(list []api.Node, inode int) (api.Node, bool) {
	for _, n := range list {
		if n.Inode == inode && n.Kind == api.KindFile {
			return n, true
		}
	}
	return api.Node{}, false
}

// span answers the first and the last tree of those around tree i, one behind the other, that have a file.
func (y *life) span(i, inode int) (first, last int) {
	first, last = i, i
	for first > 0 {
		if _, there := inTree(y.trees[first-1], inode); !there {
			break
		}
		first--
	}
	for last < y.last() {
		if _, there := inTree(y.trees[last+1], inode); !there {
			break
		}
		last++
	}
	return first, last
}

// do does calls till the device dies, or the log has no number left, and answers how many were done. What they answer is what the tree answers.
func (y *life) do(calls []call) int {
	y.t.Helper()
	open := map[int]int{}
	for k, c := range calls {
		got := do(y.s, c)
		if got.e == api.ErrDead || got.e == api.ErrFull {
			if y.d.Dead() != (got.e == api.ErrDead) || !got.same(answer{e: got.e}) {
				y.t.Fatalf("call %d, %v: %v", k, c, got)
			}
			// The call that was cut off may have been done.
			do(y.m, c)
			y.note()
			return k
		}
		if got.e == api.ErrNoSpace {
			continue
		}
		wanted := do(y.m, c)
		if !got.same(wanted) {
			y.t.Fatalf("call %d, %v: %.300v, should be %.300v", k, c, got, wanted)
		}
		if got.e != api.OK {
			continue
		}
		y.note()
		switch c.name {
		case "open":
			st, _ := y.m.Stat(c.path)
			open[got.f] = st.Inode
		case "sync":
			y.floor, y.all = y.last(), y.last()
		case "fsync":
			y.floor = y.last()
			y.sync(open[c.f])
		case "fdatasync":
			y.sync(open[c.f])
		}
	}
	return len(calls)
}

// sync notes that the bytes of a file have arrived.
func (y *life) sync(inode int) {
	first, _ := y.span(y.last(), inode)
	y.synced[one{inode, first}] = y.last()
}

// since answers the first tree whose bytes a file may have behind a crash, if it stands in tree i.
func (y *life) since(i, inode int) int {
	first, _ := y.span(i, inode)
	return max(first, y.all, y.synced[one{inode, first}])
}

// blockOf answers block number k of a file's bytes: 0 behind their end.
func blockOf(data []byte, k, block int) []byte {
	out := make([]byte, block)
	if k*block < len(data) {
		copy(out, data[k*block:])
	}
	return out
}

// allowed answers whether a file of tree i may have these bytes.
func (y *life) allowed(i int, n api.Node) bool {
	from := y.since(i, n.Inode)
	_, last := y.span(i, n.Inode)
	block := y.p.Block
	for k := 0; k*block < len(n.Data); k++ {
		got := n.Data[k*block : min(len(n.Data), (k+1)*block)]
		found := false
		for j := from; j <= last && !found; j++ {
			then, _ := inTree(y.trees[j], n.Inode)
			found = bytes.Equal(got, blockOf(then.Data, k, block)[:len(got)])
		}
		if !found {
			return false
		}
	}
	return true
}

// sized answers whether a file of tree i has a Size that it had since that was to arrive by itself.
func (y *life) sized(i int, n api.Node) bool {
	first, last := y.span(i, n.Inode)
	at, was := y.synced[one{n.Inode, first}]
	if !was || at <= i {
		return true
	}
	for j := at; j <= last; j++ {
		if then, _ := inTree(y.trees[j], n.Inode); then.Size == n.Size {
			return true
		}
	}
	return false
}

// may answers whether a tree may be what is left of tree i.
func (y *life) may(i int, list []api.Node) bool {
	return slices.EqualFunc(list, y.trees[i], func(n, was api.Node) bool {
		return sameMeta(n, was) && (n.Kind == api.KindDir || y.allowed(i, n) && y.sized(i, n))
	})
}

// ends crashes the device, and answers the tree that is left, which must be one that may be.
func (y *life) ends(picks []int, behind any) []api.Node {
	y.t.Helper()
	want(y.t, "Crash", y.d.Crash(picks), api.OK)
	image := imageOf(y.t, y.d)
	list, e := audit.Dump(image)
	if e != api.OK {
		y.t.Fatalf("behind %v: Dump: %d", behind, e)
	}
	for i := y.floor; i <= y.last(); i++ {
		if y.may(i, list) {
			return list
		}
	}
	all := ""
	for i := y.floor; i <= y.last(); i++ {
		all += fmt.Sprintf("\n%d:%s", i, show(y.trees[i]))
	}
	y.t.Fatalf("behind %v:%s\nshould be one of%s", behind, show(list), all)
	return nil
}

// grown answers a tree without a device that has these nodes, their numbers too.
func grown(t *testing.T, p api.Plan, list []api.Node) *tree.Tree {
	t.Helper()
	m := newTree(t, p)
	ok := func(e api.Errno) {
		t.Helper()
		want(t, "a tree's call", e, api.OK)
	}
	kinds := map[int]int{}
	greatest := 1
	for _, n := range list {
		kinds[n.Inode] = n.Kind
		greatest = max(greatest, n.Inode)
	}
	// No script has names that begin like these.
	own := func(i int) string { return fmt.Sprint("/..", i) }
	for i := 2; i <= greatest; i++ {
		if kinds[i] == api.KindDir {
			ok(m.Mkdir(own(i)))
		} else {
			ok(m.Create(own(i)))
		}
	}
	for _, n := range list {
		switch {
		case n.Path == "/":
		case n.Kind == api.KindDir:
			ok(m.Rename(own(n.Inode), n.Path))
		default:
			ok(m.Link(own(n.Inode), n.Path))
			fill(t, m, n)
		}
	}
	for i := 2; i <= greatest; i++ {
		if kinds[i] != api.KindDir {
			ok(m.Unlink(own(i)))
		}
	}
	if got := m.Dump(); !sameNodes(got, list) {
		t.Fatalf("grown:%s\nshould be%s", show(got), show(list))
	}
	return m
}

// fill writes the bytes of a node.
func fill(t *testing.T, m *tree.Tree, n api.Node) {
	t.Helper()
	f, e := m.Open(n.Path)
	want(t, "Open", e, api.OK)
	for at := 0; at < len(n.Data); at += api.MaxIO {
		want(t, "Write", m.Write(f, at, n.Data[at:min(len(n.Data), at+api.MaxIO)]), api.OK)
	}
	want(t, "Close", m.Close(f), api.OK)
}

// TestGrown: the tests' own way to make a tree of nodes does so.
func TestGrown(t *testing.T) {
	p := planned(t, 64, 300, 20, 40)
	m := newTree(t, p)
	for _, line := range []string{"create /a", "mkdir /b", "create /b/c", "link /b/c /a-", "mkdir /b/d", "open /a", "write 0 5000 x", "unlink /b/c", "close 0", "rename /b/d /e"} {
		do(m, parse(line))
	}
	grown(t, p, m.Dump())
	paths := []string{}
	for _, n := range m.Dump() {
		paths = append(paths, n.Path)
	}
	if list, e := walk.Order(paths); e != api.OK || !slices.Equal(list, paths) {
		t.Error("the order of paths: ", list, e)
	}
}
