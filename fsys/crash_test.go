package fsys_test

import (
	"fmt"
	"slices"
	"strings"
	"testing"

	"skerry/api"
	"skerry/fsys"
	"skerry/tree"
)

// crashScript answers a script as crashes find it: files that are there are opened, and then come calls of a theme on few names, told by the tree that they make.
func crashScript(t *testing.T, p api.Plan, m *tree.Tree, y theme, x *dice, n int) []call {
	t.Helper()
	w := &world{t: t, p: p, m: m}
	calls := []call{parse("create /a"), parse("create /b"), parse("mkdir /c")}
	for _, c := range calls {
		do(m, c)
	}
	for _, n := range m.Dump() {
		if n.Kind == api.KindFile && len(calls) < 7 {
			calls = append(calls, call{name: "open", path: n.Path})
			do(m, calls[len(calls)-1])
		}
	}
	for range n {
		c := y.anyCall(x, w, []string{"a", "b", "c"})
		if c.name == "close" && x.below(3) > 0 {
			c.name = "fdatasync"
		}
		do(m, c)
		calls = append(calls, c)
	}
	return calls
}

// crashThemes answers scripts in which something arrives now and then.
func crashThemes() []theme {
	return []theme{
		{kinds("create create mkdir mkdir link rename rename rename unlink rmdir open close write write write write truncate fsync fdatasync sync"), []int{1, 5, 63, 64, 65, 200, 700}, 12},
		{kinds("create open write write write write write write write write truncate truncate fdatasync fdatasync fsync unlink close"), []int{1, 30, 64, 65, 130, 600}, 12},
		{kinds("create open write write write write write write truncate truncate truncate rename unlink close"), []int{1, 64, 65, 600, 4096}, 60},
	}
}

// remounts holds that what is left behind a crash stays, however often Mount is cut off, and that Mount tells it.
func (y *life) remounts(list []api.Node, x *dice, behind any) {
	y.t.Helper()
	for n := 0; ; n++ {
		want(y.t, "Fuse", y.d.Fuse(n), api.OK)
		s, e := fsys.Mount(y.d, 1+x.below(8), x.picks(5))
		if e == api.OK {
			if got := told(y.t, s); !sameNodes(got, list) {
				y.t.Fatalf("behind %v, and Mount:%s\nshould be%s", behind, show(got), show(list))
			}
			break
		}
		if s != nil || e != api.ErrDead {
			y.t.Fatalf("behind %v: Mount: %v %d", behind, s, e)
		}
		want(y.t, "Crash", y.d.Crash(crashPicks(x, x.below(modes))), api.OK)
		if got := dumped(y.t, y.d); !sameNodes(got, list) {
			y.t.Fatalf("behind %v, and a Mount cut off behind %d writes:%s\nshould be%s", behind, n, show(got), show(list))
		}
	}
	for range 2 {
		want(y.t, "Crash", y.d.Crash(crashPicks(x, x.below(modes))), api.OK)
		s := mount(y.t, y.d, 1+x.below(8))
		if got := told(y.t, s); !sameNodes(got, list) {
			y.t.Fatalf("behind %v, mounted once more:%s\nshould be%s", behind, show(got), show(list))
		}
	}
}

// TestCrashes: P19.5, scripts that are cut off at each write and flush, with picks of every kind: Mount answers OK, and the tree is one that it may be.
func TestCrashes(t *testing.T) {
	for seed := range 40 {
		t.Run(fmt.Sprint(seed), func(t *testing.T) {
			t.Parallel()
			x := dice(9000 + seed)
			ground := pick(&x, [][4]int{{64, 160, 12, 40}, {64, 400, 12, 60}, {128, 200, 12, 44}, {512, 100, 10, 40}, {64, 160, 12, 90}})
			p := planned(t, ground[0], ground[1], ground[2], ground[3])
			capacity, picks := pick(&x, []int{1, 2, 4, 9, 40}), x.picks(30)
			calls := crashScript(t, p, newTree(t, p), crashThemes()[seed%len(crashThemes())], &x, 40+x.below(100))
			for n := 0; ; n++ {
				y := newLife(t, p, formatted(t, p), newTree(t, p), capacity, picks)
				want(t, "Fuse", y.d.Fuse(n), api.OK)
				done := y.do(calls)
				behind := fmt.Sprintf("seed %d, %d writes, call %d, floor %d", seed, n, done, y.floor)
				mode := n % modes
				if seed%2 == 0 {
					mode = n / 3 % modes
				}
				list := y.ends(crashPicks(&x, mode), behind)
				if n%5 == 0 {
					y.remounts(list, &x, behind)
				} else if got := told(t, mount(t, y.d, capacity, picks...)); !sameNodes(got, list) {
					t.Fatalf("behind %v, and Mount:%s\nshould be%s", behind, show(got), show(list))
				}
				if done == len(calls) {
					break
				}
			}
		})
	}
}

// TestLives: P19.5, one device that lives again and again: each life goes on with what the last one has left, and each call answers what the tree answers that has it.
func TestLives(t *testing.T) {
	for seed := range 150 {
		t.Run(fmt.Sprint(seed), func(t *testing.T) {
			t.Parallel()
			x := dice(20000 + seed)
			ground := pick(&x, [][4]int{{64, 110, 8, 40}, {64, 200, 12, 40}, {64, 400, 12, 60}, {128, 200, 12, 44}, {512, 100, 10, 40}, {64, 1500, 40, 40}, {1024, 130, 10, 50}})
			p := planned(t, ground[0], ground[1], ground[2], ground[3])
			d, m := formatted(t, p), newTree(t, p)
			for number := range 12 {
				list := m.Dump()
				calls := crashScript(t, p, grown(t, p, list), pick(&x, append(crashThemes(), themes()...)), &x, 20+x.below(100))
				y := newLife(t, p, d, m, pick(&x, []int{1, 2, 4, 9, 40, 512}), x.picks(40))
				if x.below(5) > 0 {
					want(t, "Fuse", d.Fuse(x.below(100)), api.OK)
				}
				done := y.do(calls)
				behind := fmt.Sprintf("seed %d, life %d, call %d, floor %d", seed, number, done, y.floor)
				list = y.ends(crashPicks(&x, x.below(modes)), behind)
				y.remounts(list, &x, behind)
				want(t, "Crash", d.Crash(nil), api.OK)
				m = grown(t, p, list)
			}
		})
	}
}

// TestBehindTheEnd: P19.5 and P19.3, bytes that a crash has left behind a file's end, as what wrote them was lost but for its data, do not show up, however the file grows over them.
func TestBehindTheEnd(t *testing.T) {
	p := planned(t, 64, 200, 12, 40)
	for _, script := range [][]string{
		{"write 0 100 x"}, {"write 0 20 x"}, {"write 0 40 x"}, {"write 0 3000 x"}, {"truncate 0 64"}, {"truncate 0 40"}, {"truncate 0 5", "truncate 0 40"}, {"truncate 0 5", "write 0 100 x"}, {"truncate 0 3000"}, {"write 0 9 xyz", "write 0 70 x"},
	} {
		w := begun(t, p, 1, nil, "create /a", "open /a", "write 0 0 "+text(1, 10), "sync")
		want(t, "Write", w.s.Write(0, 0, []byte(text(1, 60))), api.OK)
		// Room is made for what this asks for: the block is written to the device, and nothing else of that Write.
		told(t, w.s)
		w.arrivedWith("a Write that was lost", crashPicks(nil, 1))
		n, _ := w.s.Read(0, 0, 60)
		image := imageOf(t, w.d)
		if found := slices.ContainsFunc(image, func(b []byte) bool { return strings.HasPrefix(string(b), text(1, 60)) }); !found || len(n) != 60 {
			t.Fatal("nothing stands behind the end")
		}
		w.remount(1)
		w.ok("open /a")
		w.ok(script...)
		w.holds(script)
		w.ok("fsync 0")
		w.arrived(script)
	}
}
