package audit_test

import (
	"bytes"
	"maps"
	"slices"
	"strings"
	"testing"

	"skerry/alloc"
	"skerry/api"
	"skerry/audit"
	"skerry/cache"
	"skerry/codec"
	"skerry/device"
	"skerry/dir"
	"skerry/file"
	"skerry/group"
	"skerry/inode"
	"skerry/wal"
)

// thing is a file or a directory of a plain tree.
type thing struct {
	kind  int
	data  []byte
	names map[string]int
}

// things is a plain tree: what each inode is.
type things map[int]thing

func (s things) clone() things {
	out := things{}
	for i, x := range s {
		out[i] = thing{x.kind, bytes.Clone(x.data), maps.Clone(x.names)}
	}
	return out
}

// links answers how often an inode is named; the root counts as named once.
func (s things) links(i int) int {
	n := 0
	if i == 1 {
		n = 1
	}
	for _, x := range s {
		for _, to := range x.names {
			if to == i {
				n++
			}
		}
	}
	return n
}

// nodes answers what Dump should answer of the tree.
func (s things) nodes() []api.Node {
	var list []api.Node
	var down func(path string, i int)
	down = func(path string, i int) {
		x := s[i]
		n := node(path, x.kind, i, s.links(i), len(x.data)+16*len(x.names), x.data)
		if path == "" {
			n.Path = "/"
		}
		list = append(list, n)
		for _, name := range slices.Sorted(maps.Keys(x.names)) {
			down(path+"/"+name, x.names[name])
		}
	}
	down("", 1)
	return list
}

// all answers the inodes of that kind.
func (s things) all(kind int) []int {
	var list []int
	for i, x := range s {
		if x.kind == kind {
			list = append(list, i)
		}
	}
	slices.Sort(list)
	return list
}

// below answers whether directory d is i, or below it.
func (s things) below(i, d int) bool {
	if i == d {
		return true
	}
	for _, to := range s[i].names {
		if s[to].kind == api.KindDir && s.below(to, d) {
			return true
		}
	}
	return false
}

// world is a file system in a few calls, without care for crashes: files and directories on a device, and the plain tree that they should be.
type world struct {
	t     *testing.T
	p     api.Plan
	d     *device.Device
	g     *group.Group
	a     *alloc.Alloc
	u     *inode.Table
	tree  things
	trees []things // what it was since the last Commit, the newest one last
	x     *dice
}

// mounted answers a world on a device that is there.
func mounted(t *testing.T, p api.Plan, d *device.Device, x *dice) *world {
	t.Helper()
	l, e := wal.Open(d, p)
	want(t, "wal.Open", e, api.OK)
	c, e := cache.New(d, 1+x.below(30), []int{x.below(3), x.below(9), x.below(3)})
	want(t, "cache.New", e, api.OK)
	g, e := group.New(d, l, c, p)
	want(t, "group.New", e, api.OK)
	a, e := alloc.New(g, p)
	want(t, "alloc.New", e, api.OK)
	u, e := inode.New(a, p)
	want(t, "inode.New", e, api.OK)
	if t.Failed() {
		t.FailNow()
	}
	return &world{t: t, p: p, d: d, g: g, a: a, u: u, x: x}
}

// formatted answers a world of a root without names, on a device that had rubble.
func formatted(t *testing.T, p api.Plan, x *dice) *world {
	t.Helper()
	d, e := device.New(p.Block, p.Blocks)
	want(t, "device.New", e, api.OK)
	for b := range p.Blocks {
		fill := byte(rubble)
		if b >= p.Table && b < p.Data {
			fill = 0
		}
		want(t, "Load", d.Load(b, bytes.Repeat([]byte{fill}, p.Block)), api.OK)
	}
	super, _ := codec.Super(p)
	want(t, "Load", d.Load(0, super), api.OK)
	want(t, "wal.Format", wal.Format(d, p), api.OK)
	w := mounted(t, p, d, x)
	o, e := w.g.Begin()
	want(t, "Begin", e, api.OK)
	want(t, "alloc.Format", alloc.Format(o, p), api.OK)
	want(t, "Put", w.u.Put(o, 1, api.Inode{Kind: api.KindDir, Links: 1}), api.OK)
	want(t, "End", o.End(), api.OK)
	w.tree = things{1: {kind: api.KindDir, names: map[string]int{}}}
	w.commit()
	return w
}

// commit lets all that was done be on the device for good, in the log for now.
func (w *world) commit() {
	w.t.Helper()
	want(w.t, "Commit", w.g.Commit(), api.OK)
	w.trees = []things{w.tree.clone()}
}

// settle lets all that was done be in its place.
func (w *world) settle() {
	w.t.Helper()
	want(w.t, "Settle", w.g.Settle(), api.OK)
	w.trees = []things{w.tree.clone()}
}

// do does one operation: what do does to the device, change does to the plain tree. If there is no space, or the device dies, neither is done.
func (w *world) do(do func(o *group.Op) api.Errno, change func(s things)) api.Errno {
	w.t.Helper()
	o, e := w.g.Begin()
	if e != api.OK {
		return e
	}
	if e = do(o); e != api.OK {
		o.Abort()
		return e
	}
	// The device may die within End, and then the log may have the operation or not.
	before := w.tree.clone()
	change(w.tree)
	w.trees = append(w.trees, w.tree.clone())
	if e = o.End(); e != api.OK {
		w.tree = before
	}
	return e
}

// first answers the first error of some calls, of which none is made behind it.
func first(calls ...func() api.Errno) api.Errno {
	for _, call := range calls {
		if e := call(); e != api.OK {
			return e
		}
	}
	return api.OK
}

// born lets there be a new file or directory.
func (w *world) born(d int, name string, kind int) api.Errno {
	i := 0
	return w.do(func(o *group.Op) (e api.Errno) {
		if i, e = w.a.Inode(o); e != api.OK {
			return e
		}
		return first(
			func() api.Errno { return w.u.Put(o, i, api.Inode{Kind: kind, Links: 1}) },
			func() api.Errno { return dir.Insert(o, w.u, w.p, d, name, i) })
	}, func(s things) {
		s[d].names[name] = i
		s[i] = thing{kind: kind, names: map[string]int{}}
	})
}

// linked lets Links of inode i be other by that many; where none is left, it is free.
func (w *world) linked(o *group.Op, i, by int) api.Errno {
	x, e := w.u.Get(o, i)
	if e != api.OK {
		return e
	}
	x.Links += by
	if x.Links > 0 {
		return w.u.Put(o, i, x)
	}
	return first(
		func() api.Errno { return w.u.Cut(o, i, 0) },
		func() api.Errno { return w.u.Put(o, i, api.Inode{}) },
		func() api.Errno { return w.a.FreeInode(o, i) })
}

// link lets a file have one more name.
func (w *world) link(d int, name string, i int) api.Errno {
	return w.do(func(o *group.Op) api.Errno {
		return first(
			func() api.Errno { return dir.Insert(o, w.u, w.p, d, name, i) },
			func() api.Errno { return w.linked(o, i, 1) })
	}, func(s things) { s[d].names[name] = i })
}

// unlink lets a name be gone, and what it named, if it has no other one.
func (w *world) unlink(d int, name string) api.Errno {
	i := w.tree[d].names[name]
	return w.do(func(o *group.Op) api.Errno {
		return first(
			func() api.Errno { return dir.Remove(o, w.u, w.p, d, name) },
			func() api.Errno { return w.linked(o, i, -1) })
	}, func(s things) {
		delete(s[d].names, name)
		if s.links(i) == 0 {
			delete(s, i)
		}
	})
}

// rename lets a name be another one, maybe elsewhere.
func (w *world) rename(d int, name string, to int, other string) api.Errno {
	i := w.tree[d].names[name]
	return w.do(func(o *group.Op) api.Errno {
		return first(
			func() api.Errno { return dir.Insert(o, w.u, w.p, to, other, i) },
			func() api.Errno { return dir.Remove(o, w.u, w.p, d, name) })
	}, func(s things) {
		delete(s[d].names, name)
		s[to].names[other] = i
	})
}

// write lets bytes stand in a file.
func (w *world) write(i, at int, data []byte) api.Errno {
	return w.do(func(o *group.Op) api.Errno {
		return file.Write(o, w.u, w.p, i, at, data)
	}, func(s things) {
		x := s[i]
		if len(data) > 0 && len(x.data) < at+len(data) {
			x.data = append(x.data, make([]byte, at+len(data)-len(x.data))...)
		}
		copy(x.data[min(at, len(x.data)):], data)
		s[i] = x
	})
}

// truncate lets a file have so many bytes.
func (w *world) truncate(i, size int) api.Errno {
	return w.do(func(o *group.Op) api.Errno {
		return file.Truncate(o, w.u, w.p, i, size)
	}, func(s things) {
		x := s[i]
		x.data = append(x.data, make([]byte, max(0, size-len(x.data)))...)[:size]
		s[i] = x
	})
}

// size answers a number of bytes: mostly a few blocks, sometimes as many as ask for Double.
func (w *world) size() int {
	blocks := []int{1, 3, 12, 8 + per(w.p) + 20}[w.x.below(4)]
	return w.x.below(min(blocks*w.p.Block, most(w.p)) + 1)
}

// name answers a name, one of few, so that some are there already.
func (w *world) name() string {
	return []string{"a", "b", "a-", "a.b", "ab", "_", "0", "...", "abcdefghijklm", "z"}[w.x.below(10)]
}

// some answers one of a list.
func (w *world) some(list []int) int {
	return list[w.x.below(len(list))]
}

// step does one call, if it can be done; what is refused changes nothing.
func (w *world) step() api.Errno {
	w.t.Helper()
	files, dirs := w.tree.all(api.KindFile), w.tree.all(api.KindDir)
	d, name, to, other := w.some(dirs), w.name(), w.some(dirs), w.name()
	i, has := w.tree[d].names[name]
	_, taken := w.tree[to].names[other]
	call := w.x.below(10)
	switch {
	case call < 2 && !has:
		return w.born(d, name, api.KindFile)
	case call < 4 && !has:
		return w.born(d, name, api.KindDir)
	case call < 4 && len(w.tree[i].names) == 0 && w.x.below(3) == 0:
		return w.unlink(d, name)
	case call == 4 && has && !taken && !w.tree.below(i, to):
		return w.rename(d, name, to, other)
	case call == 5 && !taken && len(files) > 0:
		return w.link(to, other, w.some(files))
	case call < 9 && len(files) > 0:
		return w.write(w.some(files), w.size(), w.x.bytes(w.x.below(min(3*w.p.Block, api.MaxIO))))
	case len(files) > 0:
		return w.truncate(w.some(files), w.size())
	}
	return api.OK
}

// image answers the blocks of the device.
func (w *world) image() [][]byte {
	w.t.Helper()
	image, e := audit.Image(w.d)
	want(w.t, "Image", e, api.OK)
	return image
}

// wantTree holds what is told of the device behind a Commit against the plain tree, all bytes of files too.
func (w *world) wantTree() {
	w.t.Helper()
	image := w.image()
	agree(w.t, image)
	list, e := audit.Dump(image)
	want(w.t, "Dump", e, api.OK)
	if wanted := w.tree.nodes(); !sameNodes(list, wanted) {
		w.t.Fatalf("Dump: %v, should be %v", heads(list), heads(wanted))
	}
}

// wantUsed holds what is used behind a Settle against what alloc can take.
func (w *world) wantUsed() {
	w.t.Helper()
	o, e := w.g.Begin()
	want(w.t, "Begin", e, api.OK)
	free, e := w.a.Free(o)
	want(w.t, "Free", e, api.OK)
	want(w.t, "Abort", o.Abort(), api.OK)
	used, e := audit.Used(w.image())
	want(w.t, "Used", e, api.OK)
	if all := complex(float64(w.p.Blocks-w.p.Data), float64(w.p.Inodes-1)); used+free != all {
		w.t.Errorf("Used: %v, and %v can be taken of %v", used, free, all)
	}
}

// wantSome holds that the device is sound, and its tree one of those since the last Commit, but for the bytes of files.
func (w *world) wantSome() {
	w.t.Helper()
	image := w.image()
	list, e := audit.Dump(image)
	want(w.t, "Dump", e, api.OK)
	got := heads(list)
	if e != api.OK || !slices.ContainsFunc(w.trees, func(s things) bool { return slices.Equal(heads(s.nodes()), got) }) {
		w.t.Fatalf("Dump: %v, %d, is none of %d trees", got, e, len(w.trees))
	}
	agree(w.t, image)
}

// smallPlans answers plans that scripts fill and do not fill.
func smallPlans(t *testing.T) []api.Plan {
	t.Helper()
	return []api.Plan{
		planned(t, 64, 200, 12, 60), planned(t, 64, 700, 40, 200), planned(t, 128, 120, 14, 40), planned(t, 256, 150, 33, 60), planned(t, 512, 80, 20, 40), planned(t, 1024, 60, 40, 30), planned(t, 4096, 40, 9, 20),
	}
}

// TestScripts: P17.1 to P17.3, devices that scripts of calls on files and directories have left, at any time: behind a Commit with what is pending in the log, behind a Settle with an empty log, and between.
func TestScripts(t *testing.T) {
	nodes, pending, refused := 0, 0, 0
	for n := range 42 {
		x := dice(1000 + n)
		w := formatted(t, smallPlans(t)[n%7], &x)
		w.wantTree()
		for range 120 {
			if w.step() != api.OK {
				refused++
			}
			switch w.x.below(12) {
			case 0:
				w.commit()
				w.wantTree()
				if h, _ := codec.Unheader(w.image()[1]); h.Used > 0 {
					pending++
				}
			case 1:
				w.settle()
				w.wantTree()
				w.wantUsed()
			case 2:
				w.wantSome()
			}
		}
		w.commit()
		w.wantTree()
		nodes += len(w.tree.nodes())
		if t.Failed() {
			t.Fatalf("script %d", n)
		}
	}
	if nodes < 300 || pending < 50 || refused < 20 {
		t.Errorf("%d nodes, %d logs with something pending, %d calls refused", nodes, pending, refused)
	}
}

// adopt lets the plain tree be what stands on the device.
func (w *world) adopt() {
	w.t.Helper()
	list, e := audit.Dump(w.image())
	want(w.t, "Dump", e, api.OK)
	w.tree = things{}
	paths := map[string]int{}
	for _, n := range list {
		w.tree[n.Inode] = thing{n.Kind, bytes.Clone(n.Data), map[string]int{}}
		paths[n.Path] = n.Inode
		if n.Path != "/" {
			cut := strings.LastIndex(n.Path, "/")
			w.tree[paths[n.Path[:max(cut, 1)]]].names[n.Path[cut+1:]] = n.Inode
		}
	}
	w.trees = []things{w.tree.clone()}
}

// TestCrashes: P17.1 and P17.2, devices that died anywhere, whichever writes arrived: they are sound, and are replayed to a tree that was there.
func TestCrashes(t *testing.T) {
	deaths := 0
	for n := range 42 {
		x := dice(5000 + n)
		w := formatted(t, smallPlans(t)[n%7], &x)
		w.settle()
		for range 8 {
			want(t, "Fuse", w.d.Fuse(x.below(60)), api.OK)
			for range 40 {
				w.step()
				if x.below(8) == 0 && w.g.Commit() == api.OK {
					w.trees = []things{w.tree.clone()}
				}
				if w.d.Dead() {
					_, e := audit.Image(w.d)
					want(t, "Image", e, api.ErrDead)
					deaths++
					break
				}
			}
			picks := make([]int, 2*w.p.Blocks)
			for k := range picks {
				picks[k] = x.below(6) - 1
			}
			want(t, "Crash", w.d.Crash(picks), api.OK)
			w.wantSome()
			if t.Failed() {
				t.Fatalf("script %d", n)
			}
			w = mounted(t, w.p, w.d, &x)
			w.adopt()
		}
	}
	if deaths < 50 {
		t.Errorf("only %d devices died", deaths)
	}
}
