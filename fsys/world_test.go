package fsys_test

import (
	"bytes"
	"fmt"
	"slices"
	"strings"
	"testing"

	"skerry/api"
	"skerry/audit"
	"skerry/device"
	"skerry/fsys"
	"skerry/need"
	"skerry/plan"
	"skerry/tree"
)

// call is one call on a file system that has paths or handles, or lets something arrive.
type call struct {
	name      string
	old, path string
	f, at, n  int
	data      string
}

func (c call) String() string {
	return fmt.Sprintf("%s %.220q %.220q, handle %d, at %d, n %d, %d bytes %.40q", c.name, c.old, c.path, c.f, c.at, c.n, len(c.data), c.data)
}

// answer is all that a call answers; what a call does not have is 0.
type answer struct {
	e    api.Errno
	f    int
	stat api.Stat
	list []api.Entry
	data string
}

func (a answer) same(b answer) bool {
	return a.e == b.e && a.f == b.f && a.stat == b.stat && slices.Equal(a.list, b.list) && a.data == b.data
}

// parse answers the call that a line tells: its name, then its paths, or its handle, numbers and text.
func parse(line string) call {
	words := strings.SplitN(line, " ", 4)
	c := call{name: words[0]}
	number := func(i int) (n int) {
		if _, err := fmt.Sscan(words[i], &n); err != nil {
			panic(line)
		}
		return n
	}
	switch c.name {
	case "sync":
	case "link", "rename":
		c.old, c.path = words[1], words[2]
	case "close", "fsync", "fdatasync":
		c.f = number(1)
	case "truncate":
		c.f, c.n = number(1), number(2)
	case "read":
		c.f, c.at, c.n = number(1), number(2), number(3)
	case "write":
		c.f, c.at = number(1), number(2)
		if len(words) > 3 {
			c.data = words[3]
		}
	default:
		c.path = words[1]
	}
	return c
}

// treelike is what a file system and a tree have in common.
type treelike interface {
	Create(path string) api.Errno
	Mkdir(path string) api.Errno
	Link(old, path string) api.Errno
	Rename(old, path string) api.Errno
	Unlink(path string) api.Errno
	Rmdir(path string) api.Errno
	Stat(path string) (api.Stat, api.Errno)
	List(path string) ([]api.Entry, api.Errno)
	Open(path string) (int, api.Errno)
	Close(f int) api.Errno
	Read(f, at, n int) ([]byte, api.Errno)
	Write(f, at int, data []byte) api.Errno
	Truncate(f, size int) api.Errno
}

// do does a call. All that it answers is copied, and what is handed in written over.
func do(x treelike, c call) (a answer) {
	switch c.name {
	case "create":
		a.e = x.Create(c.path)
	case "mkdir":
		a.e = x.Mkdir(c.path)
	case "link":
		a.e = x.Link(c.old, c.path)
	case "rename":
		a.e = x.Rename(c.old, c.path)
	case "unlink":
		a.e = x.Unlink(c.path)
	case "rmdir":
		a.e = x.Rmdir(c.path)
	case "stat":
		a.stat, a.e = x.Stat(c.path)
	case "list":
		a.list, a.e = x.List(c.path)
	case "open":
		a.f, a.e = x.Open(c.path)
	case "close":
		a.e = x.Close(c.f)
	case "read":
		var data []byte
		data, a.e = x.Read(c.f, c.at, c.n)
		a.data = string(data)
		blot(data)
	case "write":
		data := []byte(c.data)
		a.e = x.Write(c.f, c.at, data)
		blot(data)
	case "truncate":
		a.e = x.Truncate(c.f, c.n)
	default:
		a.e = arrive(x, c)
	}
	return a
}

// arrive does a call that lets something arrive. Of a tree nothing need arrive: it knows handles alone.
func arrive(x treelike, c call) api.Errno {
	s, real := x.(*fsys.FS)
	if !real {
		if c.name == "sync" {
			return api.OK
		}
		_, e := x.Read(c.f, 0, 0)
		return e
	}
	switch c.name {
	case "fsync":
		return s.Fsync(c.f)
	case "fdatasync":
		return s.Fdatasync(c.f)
	case "sync":
		return s.Sync()
	}
	panic(c.name)
}

// blot writes over bytes, and the room behind them.
func blot(data []byte) {
	data = data[:cap(data)]
	for i := range data {
		data[i] ^= 0xa5
	}
}

// dice answers numbers that look random, the same ones each time.
type dice uint64

func (d *dice) below(n int) int {
	*d = *d*6364136223846793005 + 1442695040888963407
	x := uint64(*d)
	x ^= x >> 31
	x *= 0x9e3779b97f4a7c15
	return int((x >> 33) % uint64(n))
}

func pick[T any](d *dice, list []T) T {
	return list[d.below(len(list))]
}

// picks answers n picks, of all kinds: below 0, small, and too great.
func (d *dice) picks(n int) []int {
	var list []int
	for range n {
		list = append(list, pick(d, []int{-7, 0, 1, 2, 3, 5, 9, 1 << 40}))
	}
	return list
}

// planned answers a plan that must be there.
func planned(t *testing.T, block, blocks, inodes, log int) api.Plan {
	t.Helper()
	p, e := plan.Make(block, blocks, inodes, log)
	if e != api.OK {
		t.Fatalf("plan.Make(%d, %d, %d, %d): %d", block, blocks, inodes, log, e)
	}
	return p
}

// plans answers plans of several kinds: every size of a block, bitmaps of several blocks, tables that inodes fill and do not, logs small and great.
func plans(t *testing.T) []api.Plan {
	t.Helper()
	var list []api.Plan
	for _, n := range [][4]int{
		{64, 120, 12, 40}, {64, 100, 10, 8}, {64, 1300, 21, 40}, {64, 4096, 1024, 512}, {64, 13, 2, 4}, {128, 300, 30, 60}, {256, 200, 33, 50}, {512, 150, 40, 40}, {1024, 120, 64, 44}, {2048, 100, 65, 41}, {4096, 256, 130, 90}, {4096, 11, 2, 4},
	} {
		list = append(list, planned(t, n[0], n[1], n[2], n[3]))
	}
	return list
}

// most answers how many bytes a file has at most, counted by hand.
func most(p api.Plan) int {
	per := p.Block / 2
	return min(524288, p.Block*(8+per+per*per))
}

// want holds what a call answered against what it should.
func want(t *testing.T, call string, got, wanted api.Errno) {
	t.Helper()
	if got != wanted {
		t.Errorf("%s: %d, should be %d", call, got, wanted)
	}
}

// blank answers a device of bytes that tell nothing.
func blank(t *testing.T, p api.Plan) *device.Device {
	t.Helper()
	d, e := device.New(p.Block, p.Blocks)
	want(t, "device.New", e, api.OK)
	for b := range p.Blocks {
		want(t, "Load", d.Load(b, bytes.Repeat([]byte{0xa7}, p.Block)), api.OK)
	}
	return d
}

// formatted answers a device with a file system that has the root alone.
func formatted(t *testing.T, p api.Plan) *device.Device {
	t.Helper()
	d := blank(t, p)
	if e := fsys.Mkfs(d, p); e != api.OK {
		t.Fatalf("Mkfs of %v: %d", p, e)
	}
	return d
}

// mount answers the file system of a device, which must be had.
func mount(t *testing.T, d *device.Device, capacity int, picks ...int) *fsys.FS {
	t.Helper()
	s, e := fsys.Mount(d, capacity, picks)
	if s == nil || e != api.OK {
		t.Fatalf("Mount: %v, %d", s, e)
	}
	return s
}

func sameNodes(a, b []api.Node) bool {
	return slices.EqualFunc(a, b, func(x, y api.Node) bool {
		return sameMeta(x, y) && bytes.Equal(x.Data, y.Data)
	})
}

// sameMeta answers whether two nodes are the same but for their bytes.
func sameMeta(x, y api.Node) bool {
	return x.Path == y.Path && x.Kind == y.Kind && x.Inode == y.Inode && x.Links == y.Links && x.Size == y.Size
}

// show tells nodes in short.
func show(list []api.Node) string {
	var b strings.Builder
	for _, n := range list {
		fmt.Fprintf(&b, " %s:%d,%d,%d,%d,%.40q", n.Path, n.Kind, n.Inode, n.Links, n.Size, n.Data)
	}
	return b.String()
}

// dumped answers the tree of a device, that must be sound.
func dumped(t *testing.T, d *device.Device) []api.Node {
	t.Helper()
	image, e := audit.Image(d)
	want(t, "Image", e, api.OK)
	list, e := audit.Dump(image)
	if e != api.OK {
		t.Fatalf("Dump: %d", e)
	}
	return list
}

// told answers the tree of a file system, as its calls tell it. The bytes of files are told only where a handle is left.
func told(t *testing.T, s *fsys.FS) []api.Node {
	t.Helper()
	var list []api.Node
	var down func(path string)
	down = func(path string) {
		x, e := s.Stat(path)
		if e != api.OK {
			t.Fatalf("Stat(%s): %d", path, e)
		}
		n := api.Node{Path: path, Kind: x.Kind, Inode: x.Inode, Links: x.Links, Size: x.Size}
		if x.Kind == api.KindFile {
			n.Data = content(t, s, path)
			list = append(list, n)
			return
		}
		list = append(list, n)
		names, e := s.List(path)
		want(t, "List", e, api.OK)
		for _, entry := range names {
			at := strings.TrimSuffix(path, "/") + "/" + entry.Name
			down(at)
			if y, e := s.Stat(at); e != api.OK || y.Kind != entry.Kind || y.Inode != entry.Inode {
				t.Errorf("List(%s) tells %v, Stat %v", path, entry, y)
			}
		}
	}
	down("/")
	return list
}

// content answers all bytes of a file; nothing, where no handle is left.
func content(t *testing.T, s treelike, path string) []byte {
	t.Helper()
	f, e := s.Open(path)
	if e == api.ErrMany {
		return nil
	}
	if e != api.OK {
		t.Fatalf("Open(%s): %d", path, e)
	}
	data := bytesOf(t, s, f)
	want(t, "Close", s.Close(f), api.OK)
	return data
}

// bytesOf answers all bytes of an open file.
func bytesOf(t *testing.T, s treelike, f int) []byte {
	t.Helper()
	var data []byte
	for {
		part, e := s.Read(f, len(data), api.MaxIO)
		if e != api.OK {
			t.Fatalf("Read: %d", e)
		}
		if len(part) == 0 {
			return data
		}
		data = append(data, part...)
	}
}

// world is a file system, and the tree that it should be.
type world struct {
	t *testing.T
	p api.Plan
	d *device.Device
	s *fsys.FS
	m *tree.Tree
	// done are the calls that made the tree what it is.
	done []call
}

// newTree answers a tree without anything.
func newTree(t *testing.T, p api.Plan) *tree.Tree {
	t.Helper()
	m, e := tree.New(most(p))
	want(t, "tree.New", e, api.OK)
	return m
}

// begun answers a world on a new device, behind these calls, that are all to be OK.
func begun(t *testing.T, p api.Plan, capacity int, picks []int, lines ...string) *world {
	t.Helper()
	d := formatted(t, p)
	w := &world{t: t, p: p, d: d, s: mount(t, d, capacity, picks...), m: newTree(t, p)}
	w.ok(lines...)
	return w
}

// both does a call on both, and holds the answers against each other.
func (w *world) both(c call) answer {
	w.t.Helper()
	before, _ := w.m.Need(w.p)
	got := do(w.s, c)
	if got.e == api.ErrNoSpace {
		w.noSpace(c, got, before)
		return got
	}
	wanted := do(w.m, c)
	if got.e == api.ErrLarge && wanted.e == api.OK && w.p.Log < 40 {
		if !got.same(answer{e: got.e}) {
			w.t.Errorf("%v: %v beside an error", c, got)
		}
		w.again()
		return got
	}
	if !got.same(wanted) {
		w.t.Fatalf("%v: %.300v, should be %.300v", c, got, wanted)
	}
	if wanted.e == api.OK {
		w.done = append(w.done, c)
	}
	return got
}

// noSpace holds whether a call may answer ErrNoSpace.
func (w *world) noSpace(c call, got answer, before complex128) {
	w.t.Helper()
	if !got.same(answer{e: got.e}) {
		w.t.Errorf("%v: %v beside an error", c, got)
	}
	if c.name == "unlink" || c.name == "rmdir" || c.name == "close" || c.name == "truncate" && c.n <= w.size(c.f) {
		w.t.Errorf("%v: %d", c, got.e)
	}
	wanted := do(w.m, c)
	if wanted.e != api.OK {
		w.t.Errorf("%v: %d, should be %d", c, got.e, wanted.e)
	}
	behind, e := w.m.Need(w.p)
	if w.twice(before) && e == api.OK && w.twice(behind) {
		w.t.Errorf("%v: no space, but %v and %v fit twice", c, before, behind)
	}
	w.again()
}

// again makes the tree anew.
func (w *world) again() {
	w.t.Helper()
	w.m = newTree(w.t, w.p)
	for _, c := range w.done {
		want(w.t, c.name, do(w.m, c).e, api.OK)
	}
}

// size answers how many bytes an open file should have.
func (w *world) size(f int) int {
	n := 0
	for n < most(w.p) {
		part, _ := w.m.Read(f, n, api.MaxIO)
		if len(part) == 0 {
			break
		}
		n += len(part)
	}
	return n
}

// twice answers whether an amount fits twice into what the plan has.
func (w *world) twice(a complex128) bool {
	w.t.Helper()
	have, e := need.Have(w.p)
	want(w.t, "Have", e, api.OK)
	fits, e := need.Fits(2*a, have)
	return e == api.OK && fits
}

// call does a call that is to answer this error. One that is not OK has zero values beside it, and changes nothing.
func (w *world) call(c call, e api.Errno) answer {
	w.t.Helper()
	got := w.both(c)
	if got.e != e {
		w.t.Errorf("%v: %d, should be %d", c, got.e, e)
	}
	if got.e != api.OK && !got.same(answer{e: got.e}) {
		w.t.Errorf("%v: %v beside an error", c, got)
	}
	return got
}

// want does the call that a line tells.
func (w *world) want(line string, e api.Errno) answer {
	w.t.Helper()
	return w.call(parse(line), e)
}

// ok does calls that are to answer OK.
func (w *world) ok(lines ...string) {
	w.t.Helper()
	for _, line := range lines {
		w.want(line, api.OK)
	}
}

// holds holds all that the file system tells against the tree.
func (w *world) holds(behind any) {
	w.t.Helper()
	wanted := w.m.Dump()
	got := told(w.t, w.s)
	// Where all handles are open, their own bytes are all that can be told.
	for i, n := range got {
		if n.Kind == api.KindFile && n.Data == nil && i < len(wanted) {
			got[i].Data = wanted[i].Data
		}
	}
	if !sameNodes(got, wanted) {
		w.t.Fatalf("behind %v:%s\nshould be%s", behind, show(got), show(wanted))
	}
	for f := range api.MaxOpen {
		if _, e := w.m.Read(f, 0, 0); e == api.OK && !bytes.Equal(bytesOf(w.t, w.s, f), bytesOf(w.t, w.m, f)) {
			w.t.Fatalf("behind %v: the bytes of handle %d are others", behind, f)
		}
	}
}

// arrived holds all that a crash leaves against the tree: all of it is to have arrived.
func (w *world) arrived(behind any) {
	w.t.Helper()
	w.arrivedWith(behind, nil)
}

// arrivedWith is arrived with these picks of the crash.
func (w *world) arrivedWith(behind any, picks []int) {
	w.t.Helper()
	want(w.t, "Crash", w.d.Crash(picks), api.OK)
	if got, wanted := dumped(w.t, w.d), w.m.Dump(); !sameNodes(got, wanted) {
		w.t.Fatalf("behind %v and a crash:%s\nshould be%s", behind, show(got), show(wanted))
	}
}

// synced lets all arrive, and holds the device against the tree.
func (w *world) synced(behind any) {
	w.t.Helper()
	w.ok("sync")
	if got, wanted := dumped(w.t, w.d), w.m.Dump(); !sameNodes(got, wanted) {
		w.t.Fatalf("behind %v and Sync:%s\nshould be%s", behind, show(got), show(wanted))
	}
	w.free(behind)
}

// free holds Free behind a Sync: it is all that the plan has, less what the image uses.
func (w *world) free(behind any) {
	w.t.Helper()
	image, e := audit.Image(w.d)
	want(w.t, "Image", e, api.OK)
	used, e := audit.Used(image)
	want(w.t, "Used", e, api.OK)
	have, e := need.Have(w.p)
	want(w.t, "Have", e, api.OK)
	if got, e := w.s.Free(); got != have-used || e != api.OK {
		w.t.Errorf("behind %v: Free: %v %d, should be %v", behind, got, e, have-used)
	}
}

// remount mounts what stands on the device, and closes all handles of the tree.
func (w *world) remount(capacity int, picks ...int) {
	w.t.Helper()
	w.s = mount(w.t, w.d, capacity, picks...)
	for f := range api.MaxOpen {
		if w.m.Close(f) == api.OK {
			w.done = append(w.done, call{name: "close", f: f})
		}
	}
}
