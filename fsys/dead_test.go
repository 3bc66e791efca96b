package fsys_test

import (
	"fmt"
	"math"
	"strings"
	"testing"

	"skerry/api"
	"skerry/codec"
	"skerry/device"
	"skerry/fsys"
)

// everyCall answers a call of each kind.
func everyCall() []call {
	var list []call
	for _, line := range strings.Split("create /x,mkdir /y,link /a /z,rename /a /q,unlink /b,rmdir /d,stat /a,list /,open /b,close 0,read 0 0 9,write 0 0 xyz,truncate 0 1,truncate 0 99,fsync 0,fdatasync 0,sync", ",") {
		list = append(list, parse(line))
	}
	return list
}

// TestNil: on a nil FS each call answers ErrArg, Plan the zero plan; so does one that no Mount has made.
func TestNil(t *testing.T) {
	for _, s := range []*fsys.FS{nil, {}} {
		for _, c := range everyCall() {
			if got := do(s, c); !got.same(answer{e: api.ErrArg}) {
				t.Errorf("%v: %v", c, got)
			}
		}
		for _, line := range []string{"create x", "rename / /", "stat //", "close -1", "fsync -1", "fdatasync 16", "read 0 -1 0", "write 0 -1 x", "truncate 0 -1", "open /A"} {
			if got := do(s, parse(line)); !got.same(answer{e: api.ErrArg}) {
				t.Errorf("%s: %v", line, got)
			}
		}
		if free, e := s.Free(); free != 0 || e != api.ErrArg {
			t.Errorf("Free: %v %d", free, e)
		}
		if p := s.Plan(); p != (api.Plan{}) {
			t.Errorf("Plan: %v", p)
		}
	}
}

// TestDead: P19.3, P19.4 and P19.6, once the device has died each call answers ErrDead, whatever is in memory, also where the tree would refuse it, and writes nothing; only that a handle is not open comes ahead of it in Fsync and Fdatasync. What was in memory is lost: a crash does not bring that file system back.
func TestDead(t *testing.T) {
	p := planned(t, 64, 120, 12, 40)
	lines := []string{"create /a", "create /b", "mkdir /d", "open /a", "write 0 0 " + text(1, 300), "sync", "create /c", "write 0 0 abc"}
	for _, capacity := range []int{1, 10, 512} {
		for _, met := range []bool{false, true} {
			w := begun(t, p, capacity, nil, lines...)
			want(t, "Fuse", w.d.Fuse(0), api.OK)
			if met {
				// It is the file system that meets the death, and no call of it comes till the crash.
				want(t, "Sync", w.s.Sync(), api.ErrDead)
				want(t, "Crash", w.d.Crash(nil), api.OK)
			} else {
				want(t, "Flush", w.d.Flush(), api.ErrDead)
			}
			for range 2 {
				untouched(t, w.d, "a dead file system", func() { isDead(t, w.s) })
				want(t, "Crash", w.d.Crash(nil), api.OK)
			}
			w.s = mount(t, w.d, 3)
			if list := told(t, w.s); len(list) != 4 || string(list[1].Data) != text(1, 300) {
				t.Errorf("behind the crash:%s", show(list))
			}
		}
	}
}

// TestDeadInMemory: P19.3, P19.4 and P19.6, each call is ErrDead as the first one behind the device's death too, though all that it asks for is in memory.
func TestDeadInMemory(t *testing.T) {
	p := planned(t, 64, 120, 12, 40)
	// All that calls ask for has been read.
	lines := []string{"create /a", "create /b", "mkdir /d", "open /a", "create /e", "mkdir /d/x", "rmdir /d/x", "unlink /e", "write 0 0 " + text(1, 300)}
	for _, c := range everyCall() {
		for _, dead := range []bool{false, true} {
			w := begun(t, p, 512, nil, lines...)
			if dead {
				want(t, "Fuse", w.d.Fuse(0), api.OK)
				want(t, "Flush", w.d.Flush(), api.ErrDead)
			}
			got, wanted := do(w.s, c), answer{e: api.ErrDead}
			if !dead {
				wanted = do(w.m, c)
			}
			if !got.same(wanted) {
				t.Errorf("%v: %v, should be %v", c, got, wanted)
			}
		}
	}
	w := begun(t, p, 512, nil, lines...)
	want(t, "Fuse", w.d.Fuse(0), api.OK)
	want(t, "Flush", w.d.Flush(), api.ErrDead)
	if free, e := w.s.Free(); free != 0 || e != api.ErrDead {
		t.Errorf("Free: %v %d", free, e)
	}
}

func isDead(t *testing.T, s *fsys.FS) {
	t.Helper()
	for _, c := range everyCall() {
		if got := do(s, c); !got.same(answer{e: api.ErrDead}) {
			t.Errorf("%v: %v", c, got)
		}
	}
	for _, line := range []string{"create x", "rename / /", "stat //", "close 5", "read 5 0 0", "read 0 -1 0", "write 0 -1 x", "truncate 0 -1", "unlink /none", "stat /none"} {
		if got := do(s, parse(line)); !got.same(answer{e: api.ErrDead}) {
			t.Errorf("%s: %v", line, got)
		}
	}
	for _, line := range []string{"fsync 1", "fsync -1", "fsync 16", "fdatasync 1", "fdatasync -1", "fdatasync 16"} {
		if got := do(s, parse(line)); !got.same(answer{e: api.ErrHandle}) {
			t.Errorf("%s: %v", line, got)
		}
	}
	if free, e := s.Free(); free != 0 || e != api.ErrDead {
		t.Errorf("Free: %v %d", free, e)
	}
	if s.Plan() == (api.Plan{}) {
		t.Error("Plan is lost")
	}
}

// TestDying: P19.3 and P19.4, each kind of call as the one in which the device dies, where it does: ErrDead, with nothing beside it.
func TestDying(t *testing.T) {
	p := planned(t, 64, 120, 12, 40)
	lines := []string{"create /a", "create /b", "mkdir /d", "open /a", "sync", "write 0 0 " + text(1, 300), "write 0 0 " + text(2, 300)}
	died := map[string]int{}
	for _, c := range everyCall() {
		for n := range 30 {
			w := begun(t, p, 1, nil, lines...)
			want(t, "Fuse", w.d.Fuse(n), api.OK)
			got, wanted := do(w.s, c), do(w.m, c)
			if got.e == api.ErrDead {
				died[c.name]++
				wanted = answer{e: api.ErrDead}
			}
			if !got.same(wanted) || w.d.Dead() != (got.e == api.ErrDead) {
				t.Errorf("%v, %d writes: %v, should be %v", c, n, got, wanted)
			}
		}
	}
	for _, c := range everyCall() {
		// Close asks for no block; all others do.
		if died[c.name] == 0 && c.name != "close" {
			t.Errorf("no %s died", c.name)
		}
	}
}

// numbered lets the log of a device, on which nothing is pending, have numbers left for but so many parts.
func numbered(t *testing.T, d *device.Device, p api.Plan, parts int) {
	t.Helper()
	data, e := codec.Header(api.Header{Seq: math.MaxUint32 - parts}, p.Block)
	want(t, "Header", e, api.OK)
	want(t, "Load", d.Load(1, data), api.OK)
}

// TestFull: P19.3, where the log's Seq has no room any more, what must be committed is ErrFull, and P19.5 holds all the same.
func TestFull(t *testing.T) {
	p := planned(t, 64, 200, 40, 40)
	met := asked{}
	for seed := range 60 {
		x := dice(800 + seed)
		m := newTree(t, p)
		d := formatted(t, p)
		numbered(t, d, p, seed%6)
		calls := crashScript(t, p, newTree(t, p), crashThemes()[seed%len(crashThemes())], &x, 200)
		y := newLife(t, p, d, m, 1+x.below(9), x.picks(9))
		k := y.do(calls)
		if k == len(calls) {
			continue
		}
		met[fmt.Sprint(calls[k].name, api.ErrFull)]++
		// It is full for good.
		want(t, "Create", y.s.Create("/new"), api.OK)
		for range 2 {
			want(t, "Sync", y.s.Sync(), api.ErrFull)
		}
		behind := fmt.Sprintf("seed %d, call %d", seed, k)
		list := y.ends(crashPicks(&x, x.below(modes)), behind)
		y.remounts(list, &x, behind)
	}
	met.want(t, "sync", api.ErrFull)
	met.want(t, "fsync", api.ErrFull)
	met.want(t, "fdatasync", api.ErrFull)
	met.want(t, "write", api.ErrFull)
	// Names alone fill the log too.
	w := begun(t, planned(t, 64, 300, 100, 40), 5, nil, "mkdir /d", "sync")
	numbered(t, w.d, w.p, 0)
	w.remount(5)
	before, e := w.m.Dump(), api.OK
	for i := 0; i < 90 && e == api.OK; i++ {
		e = w.s.Create(fmt.Sprint("/d/", i))
	}
	want(t, "Create", e, api.ErrFull)
	want(t, "Crash", w.d.Crash(nil), api.OK)
	if got := dumped(t, w.d); !sameNodes(got, before) {
		t.Errorf("behind ErrFull:%s\nshould be%s", show(got), show(before))
	}
}

// TestNotFull: P19.4, without names or sizes to tell of, bytes arrive though the log's Seq has no room any more, and what is pending is applied.
func TestNotFull(t *testing.T) {
	w := begun(t, planned(t, 64, 200, 40, 40), 5, nil, "create /a", "open /a", "write 0 0 "+text(1, 200), "sync")
	numbered(t, w.d, w.p, 1)
	w.remount(5)
	w.ok("open /a", "truncate 0 150", "fsync 0", "write 0 0 abc", "fsync 0", "write 0 9 abc", "fdatasync 0", "write 0 99 abc")
	w.synced("bytes alone")
}
