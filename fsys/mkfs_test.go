package fsys_test

import (
	"bytes"
	"math"
	"slices"
	"testing"

	"skerry/api"
	"skerry/audit"
	"skerry/codec"
	"skerry/device"
	"skerry/fsys"
	"skerry/need"
	"skerry/plan"
)

// rootAlone is the tree of a new file system.
var rootAlone = []api.Node{{Path: "/", Kind: api.KindDir, Inode: 1, Links: 1}}

// imageOf answers what is read of a device.
func imageOf(t *testing.T, d *device.Device) [][]byte {
	t.Helper()
	image, e := audit.Image(d)
	want(t, "Image", e, api.OK)
	return image
}

func sameImage(a, b [][]byte) bool {
	return slices.EqualFunc(a, b, func(x, y []byte) bool { return bytes.Equal(x, y) })
}

// untouched runs do, which must not write to a device.
func untouched(t *testing.T, d *device.Device, what string, do func()) {
	t.Helper()
	writes, waiting := d.Writes(), d.Waiting()
	do()
	if d.Writes() != writes || !slices.Equal(d.Waiting(), waiting) {
		t.Errorf("%s has written", what)
	}
}

// unsound answers plans that are like p but for one number, and plans of nothing.
func unsound(p api.Plan) []api.Plan {
	var list []api.Plan
	for _, by := range []int{-1, 1, math.MinInt, math.MaxInt - 4096} {
		for i := range 12 {
			q := p
			*[]*int{&q.Block, &q.Blocks, &q.Inodes, &q.Log, &q.LogAt, &q.IBits, &q.ILen, &q.BBits, &q.BLen, &q.Table, &q.TLen, &q.Data}[i] += by
			if plan.Check(q) != api.OK {
				list = append(list, q)
			}
		}
	}
	return append(list, api.Plan{}, api.Plan{Block: p.Block, Blocks: p.Blocks, Inodes: p.Inodes, Log: p.Log})
}

// isNew holds whether a device has a file system that has the root alone, all of it arrived.
func isNew(t *testing.T, d *device.Device, p api.Plan) {
	t.Helper()
	if list := d.Waiting(); len(list) > 0 {
		t.Errorf("%v: waits: %v", p, list)
	}
	want(t, "Crash", d.Crash(nil), api.OK)
	image := imageOf(t, d)
	want(t, "Check", audit.Check(image), api.OK)
	if list := dumped(t, d); !sameNodes(list, rootAlone) {
		t.Errorf("%v:%s", p, show(list))
	}
	if q, e := codec.Unsuper(image[0]); q != p || e != api.OK {
		t.Errorf("the image's plan: %v %d, should be %v", q, e, p)
	}
	if used, e := audit.Used(image); used != 1i || e != api.OK {
		t.Errorf("%v: Used: %v %d", p, used, e)
	}
}

// TestMkfs: P19.1, plans of every kind, on devices on which anything stood and waited.
func TestMkfs(t *testing.T) {
	for _, p := range plans(t) {
		for fill := range 3 {
			d := blank(t, p)
			for b := range p.Blocks {
				if fill > 0 {
					want(t, "Write", d.Write(b, bytes.Repeat([]byte{byte(fill - 1)}, p.Block)), api.OK)
				}
			}
			want(t, "Mkfs", fsys.Mkfs(d, p), api.OK)
			isNew(t, d, p)
			s := mount(t, d, 1)
			have, _ := need.Have(p)
			if free, e := s.Free(); free != have-1i || e != api.OK {
				t.Errorf("%v: Free: %v %d, should be %v", p, free, e, have-1i)
			}
			if s.Plan() != p {
				t.Errorf("Plan: %v, should be %v", s.Plan(), p)
			}
			if list := told(t, s); !sameNodes(list, rootAlone) {
				t.Errorf("%v:%s", p, show(list))
			}
		}
	}
}

// TestMkfsAgain: P19.1, a device that had another file system, of another plan too.
func TestMkfsAgain(t *testing.T) {
	for _, n := range [][2]int{{12, 40}, {50, 10}, {2, 4}} {
		w := begun(t, planned(t, 64, 120, 12, 40), 5, nil, "create /a", "open /a", "write 0 100 x", "mkdir /d", "fsync 0", "create /d/b", "write 0 0 y")
		p := planned(t, 64, 120, n[0], n[1])
		want(t, "Mkfs", fsys.Mkfs(w.d, p), api.OK)
		isNew(t, w.d, p)
	}
}

// TestMkfsRefuses: P19.1, what is no device, no plan, or not the device's; several at one time; nothing is written then.
func TestMkfsRefuses(t *testing.T) {
	p := planned(t, 64, 120, 12, 40)
	want(t, "Mkfs of nil", fsys.Mkfs(nil, p), api.ErrArg)
	want(t, "Mkfs of nil", fsys.Mkfs(nil, api.Plan{}), api.ErrArg)
	d := formatted(t, p)
	want(t, "Write", d.Write(50, make([]byte, 64)), api.OK)
	image := imageOf(t, d)
	others := append(unsound(p), planned(t, 64, 119, 12, 40), planned(t, 64, 121, 12, 40), planned(t, 128, 120, 12, 40), planned(t, 128, 60, 12, 30))
	untouched(t, d, "Mkfs", func() {
		for _, q := range others {
			want(t, "Mkfs", fsys.Mkfs(d, q), api.ErrForm)
		}
	})
	if !sameImage(imageOf(t, d), image) {
		t.Error("a Mkfs that was refused has changed the device")
	}
	// A dead device comes behind that.
	want(t, "Fuse", d.Fuse(0), api.OK)
	want(t, "Mkfs", fsys.Mkfs(d, p), api.ErrDead)
	if !d.Dead() {
		t.Error("Mkfs has not found the fuse burnt")
	}
	want(t, "Mkfs", fsys.Mkfs(d, p), api.ErrDead)
	for _, q := range others {
		want(t, "Mkfs", fsys.Mkfs(d, q), api.ErrForm)
	}
	want(t, "Crash", d.Crash(nil), api.OK)
	want(t, "Mkfs", fsys.Mkfs(d, p), api.OK)
	isNew(t, d, p)
}

// TestMkfsCut: P19.1, a device that dies within Mkfs: its error; behind the crash what stands there is the old tree, the new one, or told to be none.
func TestMkfsCut(t *testing.T) {
	for _, old := range []bool{false, true} {
		for mode := range modes {
			p, x := planned(t, 64, 120, 12, 40), dice(mode)
			before := []api.Node(nil)
			for n := 0; ; n++ {
				w := begun(t, p, 5, nil, "create /a", "open /a", "write 0 100 x", "mkdir /d", "sync", "create /d/b", "fsync 0")
				if !old {
					w.d = blank(t, p)
				} else {
					before = w.m.Dump()
				}
				want(t, "Fuse", w.d.Fuse(n), api.OK)
				e := fsys.Mkfs(w.d, p)
				if e == api.OK {
					isNew(t, w.d, p)
					break
				}
				want(t, "Mkfs", e, api.ErrDead)
				want(t, "Crash", w.d.Crash(crashPicks(&x, mode)), api.OK)
				list, e := audit.Dump(imageOf(t, w.d))
				if e == api.OK && !sameNodes(list, rootAlone) && !sameNodes(list, before) {
					t.Errorf("behind %d writes of Mkfs:%s", n, show(list))
				}
				want(t, "Mkfs", fsys.Mkfs(w.d, p), api.OK)
				isNew(t, w.d, p)
			}
		}
	}
}

// modes is how many kinds of picks there are.
const modes = 7

// crashPicks answers picks of a kind: none, all, the first ones of each block, every other block, the first block alone, all others, any.
func crashPicks(x *dice, mode int) []int {
	all := slices.Repeat([]int{1 << 30}, api.MaxBlocks)
	switch mode {
	case 0:
		return nil
	case 1:
		return all
	case 2:
		return slices.Repeat([]int{1}, api.MaxBlocks)
	case 3:
		return slices.Repeat([]int{1 << 30, 0}, api.MaxBlocks/2)
	case 4:
		return all[:1]
	case 5:
		return append([]int{0}, all...)
	}
	list := make([]int, 400)
	for i := range list {
		list[i] = pick(x, []int{-1, 0, 0, 1, 2, 3, 1 << 30, 1 << 30})
	}
	return list
}
