package need_test

import (
	"math"
	"slices"
	"testing"

	"skerry/api"
	"skerry/need"
	"skerry/plan"
)

var blockSizes = []int{64, 128, 256, 512, 1024, 2048, 4096}

// maxSize is the greatest size of a file: only with blocks of 64 bytes it is the pointers that bound it.
func maxSize(block int) int {
	if block == 64 {
		return 68096
	}
	return 524288
}

func mustMake(t *testing.T, block, blocks, inodes, log int) api.Plan {
	t.Helper()
	p, e := plan.Make(block, blocks, inodes, log)
	if e != api.OK {
		t.Fatal("Make:", block, blocks, inodes, log, e)
	}
	return p
}

// wholeFiles counts out how many blocks a file of 0, 1, .. data blocks has: a block more, and ahead of it the blocks with pointers that it is the first to need.
func wholeFiles(block int) []int {
	per := block / 2
	list := []int{0}
	count := 0
	for i := range maxSize(block) / block {
		count++
		if i == 8 || i == 8+per {
			count++
		}
		if i >= 8+per && (i-8-per)%per == 0 {
			count++
		}
		list = append(list, count)
	}
	return list
}

// unsoundPlans are the plan of chapter 5's example with one thing that is another one.
func unsoundPlans() map[string]api.Plan {
	good := api.Plan{Block: 64, Blocks: 100, Inodes: 10, Log: 8, LogAt: 2, IBits: 10, ILen: 1, BBits: 11, BLen: 1, Table: 12, TLen: 5, Data: 17}
	list := map[string]api.Plan{"zero": {}}
	for name, twist := range map[string]func(p *api.Plan){
		"Block":                func(p *api.Plan) { p.Block = 128 },
		"Block that is none":   func(p *api.Plan) { p.Block = 65 },
		"Block of 0":           func(p *api.Plan) { p.Block = 0 },
		"Blocks, no data":      func(p *api.Plan) { p.Blocks = 17 },
		"Blocks, more bits":    func(p *api.Plan) { p.Blocks = 513 },
		"Blocks that are none": func(p *api.Plan) { p.Blocks = 0 },
		"Blocks, too many":     func(p *api.Plan) { p.Blocks = 4097 },
		"Blocks, least":        func(p *api.Plan) { p.Blocks = math.MinInt },
		"Blocks, greatest":     func(p *api.Plan) { p.Blocks = math.MaxInt },
		"Inodes":               func(p *api.Plan) { p.Inodes = 11 },
		"Inodes that are none": func(p *api.Plan) { p.Inodes = 1 },
		"Inodes, too many":     func(p *api.Plan) { p.Inodes = 1025 },
		"Inodes, least":        func(p *api.Plan) { p.Inodes = math.MinInt },
		"Inodes, greatest":     func(p *api.Plan) { p.Inodes = math.MaxInt },
		"Log":                  func(p *api.Plan) { p.Log = 9 },
		"Log that is none":     func(p *api.Plan) { p.Log = 3 },
		"LogAt":                func(p *api.Plan) { p.LogAt = 3 },
		"IBits":                func(p *api.Plan) { p.IBits = 9 },
		"ILen":                 func(p *api.Plan) { p.ILen = 0 },
		"BBits":                func(p *api.Plan) { p.BBits = 12 },
		"BLen":                 func(p *api.Plan) { p.BLen = 2 },
		"Table":                func(p *api.Plan) { p.Table = 13 },
		"TLen":                 func(p *api.Plan) { p.TLen = 4 },
		"Data":                 func(p *api.Plan) { p.Data = 18 },
		"Data, one less":       func(p *api.Plan) { p.Data = 16 },
		"Data, least":          func(p *api.Plan) { p.Data = math.MinInt },
		"Data, greatest":       func(p *api.Plan) { p.Data = math.MaxInt },
	} {
		p := good
		twist(&p)
		list[name] = p
	}
	return list
}

// TestFile: P10.2, by amounts that are written out.
func TestFile(t *testing.T) {
	for _, r := range []struct {
		block, size int
		want        complex128
		e           api.Errno
	}{
		{64, 513, 10 + 1i, api.OK}, {64, 0, 1i, api.OK}, {64, 1, 1 + 1i, api.OK}, {64, 64, 1 + 1i, api.OK}, {64, 65, 2 + 1i, api.OK}, {64, 512, 8 + 1i, api.OK}, {64, 2560, 41 + 1i, api.OK}, {64, 2561, 44 + 1i, api.OK}, {64, 4608, 75 + 1i, api.OK}, {64, 4609, 77 + 1i, api.OK},
		{64, 68096, 1098 + 1i, api.OK}, {64, 68097, 0, api.ErrRange}, {64, 524288, 0, api.ErrRange}, {64, -1, 0, api.ErrRange}, {64, math.MinInt, 0, api.ErrRange}, {64, math.MaxInt, 0, api.ErrRange},
		{128, 1024, 8 + 1i, api.OK}, {128, 1025, 10 + 1i, api.OK}, {128, 9216, 73 + 1i, api.OK}, {128, 9217, 76 + 1i, api.OK}, {128, 524288, 4161 + 1i, api.OK}, {128, 524289, 0, api.ErrRange}, {128, -1, 0, api.ErrRange},
		{256, 524288, 2065 + 1i, api.OK}, {256, 524289, 0, api.ErrRange}, {512, 524288, 1029 + 1i, api.OK}, {512, 524289, 0, api.ErrRange}, {1024, 524288, 513 + 1i, api.OK}, {1024, 524289, 0, api.ErrRange}, {2048, 524288, 257 + 1i, api.OK}, {2048, 524289, 0, api.ErrRange},
		{4096, 0, 1i, api.OK}, {4096, 4096, 1 + 1i, api.OK}, {4096, 4097, 2 + 1i, api.OK}, {4096, 32769, 10 + 1i, api.OK}, {4096, 524288, 129 + 1i, api.OK}, {4096, 524289, 0, api.ErrRange}, {4096, -1, 0, api.ErrRange}, {4096, math.MinInt, 0, api.ErrRange}, {4096, math.MaxInt, 0, api.ErrRange},
	} {
		p := mustMake(t, r.block, 100, 10, 8)
		if a, e := need.File(p, r.size); a != r.want || e != r.e {
			t.Errorf("File(%d, %d): %v %d, not %v %d", r.block, r.size, a, e, r.want, r.e)
		}
	}
}

// TestAllFiles: P10.2, files that end around the edges of all their blocks, held against a count block by block and against plan.Whole; and sizes that are none.
func TestAllFiles(t *testing.T) {
	for _, block := range blockSizes {
		// How great the device is does not matter: it may be less than the file.
		for _, p := range []api.Plan{mustMake(t, block, 10, 2, 4), mustMake(t, block, 200, 30, 20)} {
			sizes := append(slices.Clone(far), 0)
			for n, count := range wholeFiles(block) {
				if n == 0 {
					continue
				}
				for _, size := range []int{n*block - block + 1, n*block - block + 2, n*block - block/2, n*block - 1, n * block} {
					if a, e := need.File(p, size); a != complex(float64(count), 1) || e != api.OK {
						t.Fatalf("File(%d, %d): %v %d, not %d", block, size, a, e, count)
					}
					sizes = append(sizes, size)
				}
			}
			for _, size := range append(sizes, maxSize(block)+1, maxSize(block)+block, 1<<20, top, top+1) {
				data, pointers, f := plan.Whole(p, size)
				want := complex(float64(data+pointers), 1)
				if f != api.OK {
					want = 0
				}
				if a, e := need.File(p, size); a != want || e != f {
					t.Fatalf("File(%d, %d): %v %d, not %v %d", block, size, a, e, want, f)
				}
			}
		}
	}
}

// TestDir: P10.2, by amounts that are written out.
func TestDir(t *testing.T) {
	for _, r := range []struct {
		block, names int
		want         complex128
		e            api.Errno
	}{
		{64, 5, 2 + 1i, api.OK}, {64, 0, 1i, api.OK}, {64, 1, 1 + 1i, api.OK}, {64, 4, 1 + 1i, api.OK}, {64, 8, 2 + 1i, api.OK}, {64, 9, 3 + 1i, api.OK}, {64, 32, 8 + 1i, api.OK}, {64, 33, 10 + 1i, api.OK}, {64, 160, 41 + 1i, api.OK}, {64, 161, 44 + 1i, api.OK},
		{64, 4252, 1097 + 1i, api.OK}, {64, 4253, 1098 + 1i, api.OK}, {64, 4256, 1098 + 1i, api.OK}, {64, 4257, 0, api.ErrRange}, {64, -1, 0, api.ErrRange}, {64, -4, 0, api.ErrRange}, {64, math.MinInt, 0, api.ErrRange}, {64, math.MaxInt, 0, api.ErrRange},
		// 16 bytes for each of them would wrap around to few.
		{64, math.MaxInt/16 + 1, 0, api.ErrRange}, {64, math.MaxInt/8 + 1, 0, api.ErrRange}, {64, math.MaxInt/8 + 2, 0, api.ErrRange}, {64, math.MinInt / 2, 0, api.ErrRange}, {64, math.MinInt/2 + 4, 0, api.ErrRange}, {64, 1 << 28, 0, api.ErrRange}, {64, 1<<28 + 1, 0, api.ErrRange},
		{128, 8, 1 + 1i, api.OK}, {128, 9, 2 + 1i, api.OK}, {128, 64, 8 + 1i, api.OK}, {128, 65, 10 + 1i, api.OK}, {128, 32768, 4161 + 1i, api.OK}, {128, 32769, 0, api.ErrRange},
		{256, 16, 1 + 1i, api.OK}, {256, 17, 2 + 1i, api.OK}, {256, 32768, 2065 + 1i, api.OK}, {256, 32769, 0, api.ErrRange}, {512, 32, 1 + 1i, api.OK}, {512, 33, 2 + 1i, api.OK}, {512, 32768, 1029 + 1i, api.OK}, {512, 32769, 0, api.ErrRange},
		{1024, 64, 1 + 1i, api.OK}, {1024, 65, 2 + 1i, api.OK}, {1024, 32768, 513 + 1i, api.OK}, {1024, 32769, 0, api.ErrRange}, {2048, 128, 1 + 1i, api.OK}, {2048, 129, 2 + 1i, api.OK}, {2048, 32768, 257 + 1i, api.OK}, {2048, 32769, 0, api.ErrRange},
		{4096, 0, 1i, api.OK}, {4096, 1, 1 + 1i, api.OK}, {4096, 256, 1 + 1i, api.OK}, {4096, 257, 2 + 1i, api.OK}, {4096, 2048, 8 + 1i, api.OK}, {4096, 2049, 10 + 1i, api.OK}, {4096, 32768, 129 + 1i, api.OK}, {4096, 32769, 0, api.ErrRange}, {4096, -1, 0, api.ErrRange}, {4096, math.MinInt, 0, api.ErrRange}, {4096, math.MaxInt, 0, api.ErrRange},
	} {
		p := mustMake(t, r.block, 100, 10, 8)
		if a, e := need.Dir(p, r.names); a != r.want || e != r.e {
			t.Errorf("Dir(%d, %d): %v %d, not %v %d", r.block, r.names, a, e, r.want, r.e)
		}
	}
}

// TestAllDirs: P10.2, all numbers of names for each size of block, held against a count block by block and against File of just these whole blocks; and numbers that are none.
func TestAllDirs(t *testing.T) {
	for _, block := range blockSizes {
		p := mustMake(t, block, 100, 10, 8)
		counts := wholeFiles(block)
		blocks, room := 0, 0
		for names := range maxSize(block)/16 + 1 {
			if names*16 > room {
				blocks++
				room += block
			}
			a, e := need.Dir(p, names)
			if a != complex(float64(counts[blocks]), 1) || e != api.OK {
				t.Fatalf("Dir(%d, %d): %v %d, not %d", block, names, a, e, counts[blocks])
			}
			if b, f := need.File(p, room); a != b || e != f {
				t.Fatalf("Dir(%d, %d): %v %d, File: %v %d", block, names, a, e, b, f)
			}
		}
		if room != maxSize(block) {
			t.Fatal("the last directory is not a file of MaxSize:", block, room)
		}
		for _, names := range append(slices.Clone(far), maxSize(block)/16+1, maxSize(block)/16+2, maxSize(block), 1<<19, 1<<20, 1<<28, top, top+1) {
			if a, e := need.Dir(p, names); a != 0 || e != api.ErrRange {
				t.Fatalf("Dir(%d, %d): %v %d", block, names, a, e)
			}
		}
	}
}

// TestHave: P10.3, by amounts that are written out.
func TestHave(t *testing.T) {
	for _, r := range []struct {
		block, blocks, inodes, log int
		want                       complex128
	}{
		{64, 100, 10, 8, 83 + 9i}, {64, 100, 9, 8, 83 + 8i}, {64, 100, 11, 8, 82 + 10i}, {64, 18, 10, 8, 1 + 9i}, {64, 10, 2, 4, 1 + 1i}, {64, 4096, 1024, 512, 3060 + 1023i}, {64, 513, 512, 4, 248 + 511i}, {64, 512, 513, 4, 246 + 512i}, {128, 4096, 1024, 512, 3321 + 1023i}, {256, 4096, 1024, 512, 3451 + 1023i}, {512, 2048, 17, 20, 2022 + 16i}, {1024, 1024, 33, 5, 1013 + 32i}, {2048, 512, 64, 5, 502 + 63i}, {4096, 256, 1024, 200, 44 + 1023i},
	} {
		if a, e := need.Have(mustMake(t, r.block, r.blocks, r.inodes, r.log)); a != r.want || e != api.OK {
			t.Errorf("Have(%+v): %v %d", r, a, e)
		}
	}
}

// TestAllHaves: P10.3, over many sound plans: the blocks that stand in the region of data, and the inodes that have a place, but number 0.
func TestAllHaves(t *testing.T) {
	sound := 0
	for _, block := range blockSizes {
		for _, blocks := range []int{9, 10, 11, 17, 18, 100, 256, 512, 513, 700, 1024, 2048, 4096} {
			for _, inodes := range []int{2, 3, 10, 64, 65, 512, 513, 1024} {
				for _, log := range []int{4, 8, 100, 512} {
					p, e := plan.Make(block, blocks, inodes, log)
					if e != api.OK {
						continue
					}
					sound++
					data, places := 0, 0
					for b := range blocks {
						if region, _ := plan.Region(p, b); region == 6 {
							data++
						}
					}
					for i := 1; i < 1100; i++ {
						if _, _, e := plan.Place(p, i); e == api.OK {
							places++
						}
					}
					if a, e := need.Have(p); a != complex(float64(data), float64(places)) || e != api.OK {
						t.Fatalf("Have(%+v): %v %d, not %d %d", p, a, e, data, places)
					}
				}
			}
		}
	}
	if sound < 500 {
		t.Error("only so many plans are sound:", sound)
	}
}

// TestTree: P10.3, by amounts that are written out.
func TestTree(t *testing.T) {
	p := mustMake(t, 64, 100, 10, 8)
	for _, r := range []struct {
		files, dirs []int
		want        complex128
		e           api.Errno
	}{
		{nil, nil, 0, api.OK}, {[]int{}, []int{}, 0, api.OK}, {[]int{513}, nil, 10 + 1i, api.OK}, {nil, []int{5}, 2 + 1i, api.OK}, {[]int{513, 0}, []int{5}, 12 + 3i, api.OK}, {[]int{0}, []int{0}, 2i, api.OK}, {[]int{5}, []int{513}, 135 + 2i, api.OK},
		{[]int{1, 64, 65, 2561}, []int{1, 4, 9}, 53 + 7i, api.OK}, {[]int{68096, 68096}, []int{4256, 4256}, 4392 + 4i, api.OK},
		// What is a number of bytes is not one of names.
		{[]int{4257}, nil, 70 + 1i, api.OK}, {nil, []int{4257}, 0, api.ErrRange}, {[]int{68097}, nil, 0, api.ErrRange}, {nil, []int{68096}, 0, api.ErrRange},
		{[]int{-1}, nil, 0, api.ErrRange}, {nil, []int{-1}, 0, api.ErrRange}, {[]int{1, 2, -1}, []int{1}, 0, api.ErrRange}, {[]int{-1, 1, 2}, []int{1}, 0, api.ErrRange}, {[]int{1}, []int{1, 2, -1}, 0, api.ErrRange}, {[]int{1}, []int{-1, 1, 2}, 0, api.ErrRange}, {[]int{-1}, []int{-1}, 0, api.ErrRange}, {[]int{-1, 1}, []int{1}, 0, api.ErrRange},
		{[]int{math.MinInt}, nil, 0, api.ErrRange}, {[]int{math.MaxInt}, nil, 0, api.ErrRange}, {nil, []int{math.MinInt}, 0, api.ErrRange}, {nil, []int{math.MaxInt}, 0, api.ErrRange}, {nil, []int{math.MaxInt/16 + 1}, 0, api.ErrRange},
	} {
		if a, e := need.Tree(p, r.files, r.dirs); a != r.want || e != r.e {
			t.Errorf("Tree(%v, %v): %v %d, not %v %d", r.files, r.dirs, a, e, r.want, r.e)
		}
	}
}

// wantTree is what Sum answers for what File and Dir answer, or the first of their errors.
func wantTree(p api.Plan, files, dirs []int) (complex128, api.Errno) {
	var list []complex128
	for _, size := range files {
		a, e := need.File(p, size)
		if e != api.OK {
			return 0, e
		}
		list = append(list, a)
	}
	for _, names := range dirs {
		a, e := need.Dir(p, names)
		if e != api.OK {
			return 0, e
		}
		list = append(list, a)
	}
	return need.Sum(list)
}

// TestAllTrees: P10.3, mixed trees of plans of each size of block, some with sizes or numbers of names that are none.
func TestAllTrees(t *testing.T) {
	x := uint64(7)
	next := func(n int) int {
		x = x*6364136223846793005 + 1442695040888963407
		return int(x >> 33 % uint64(n))
	}
	fine, refused := 0, 0
	for _, block := range blockSizes {
		p := mustMake(t, block, 100, 10, 8)
		for range 400 {
			most := maxSize(block)
			if next(3) == 0 {
				most += most / 8
			}
			var files, dirs []int
			for range next(12) {
				files = append(files, next(most+1))
			}
			for range next(12) {
				dirs = append(dirs, next(most/16+1))
			}
			if next(8) == 0 {
				files = append(files, far[next(len(far))])
			}
			if next(8) == 0 {
				dirs = append(dirs, far[next(len(far))])
			}
			want, f := wantTree(p, files, dirs)
			if a, e := need.Tree(p, files, dirs); a != want || e != f {
				t.Fatalf("Tree(%d, %v, %v): %v %d, not %v %d", block, files, dirs, a, e, want, f)
			}
			if f == api.OK {
				fine++
			} else {
				refused++
			}
		}
	}
	if fine < 500 || refused < 500 {
		t.Error("not both kinds of trees:", fine, refused)
	}
}

// TestGreatTrees: P10.3, trees of just 2^30 blocks, and one more; an error of File or Dir, wherever it stands, is ahead of the sum's, and the plan's is ahead of both.
func TestGreatTrees(t *testing.T) {
	p := mustMake(t, 128, 100, 10, 8)
	bad := p
	bad.Data++
	ask := func(what string, p api.Plan, files, dirs []int, want complex128, f api.Errno) {
		t.Helper()
		if a, e := need.Tree(p, files, dirs); a != want || e != f {
			t.Errorf("Tree, %s: %v %d, not %v %d", what, a, e, want, f)
		}
	}
	// 258048 times 4161 blocks, and 512 times 8.
	files := append(slices.Repeat([]int{524288}, 258048), slices.Repeat([]int{1024}, 512)...)
	dirs := append(slices.Repeat([]int{32768}, 258048), slices.Repeat([]int{64}, 512)...)
	just := complex(1073741824, 258560)
	one, wrong := []int{1}, []int{-1}
	for _, none := range [][]int{nil, {}} {
		ask("just files", p, files, none, just, api.OK)
		ask("just directories", p, none, dirs, just, api.OK)
	}
	ask("an empty file more", p, append(slices.Clone(files), 0), nil, just+1i, api.OK)
	ask("an empty directory more", p, files, []int{0}, just+1i, api.OK)
	ask("files and a directory more", p, files, one, 0, api.ErrValue)
	ask("a file more and directories", p, one, dirs, 0, api.ErrValue)
	ask("a file more", p, append(slices.Clone(files), 1), nil, 0, api.ErrValue)
	ask("a directory more", p, nil, append([]int{1}, dirs...), 0, api.ErrValue)
	ask("twice as much", p, files, dirs, 0, api.ErrValue)
	ask("too much, and a last file", p, append(slices.Clone(files), 1, -1), nil, 0, api.ErrRange)
	ask("too much, and a last directory", p, files, append(slices.Clone(dirs), 32769), 0, api.ErrRange)
	ask("too much files, and a directory", p, append(slices.Clone(files), 1), wrong, 0, api.ErrRange)
	ask("a file, and too much", p, wrong, append(slices.Clone(dirs), 1), 0, api.ErrRange)
	ask("no plan, and too much", bad, files, dirs, 0, api.ErrForm)
	ask("no plan, and all else", bad, append(slices.Clone(files), -1), append(slices.Clone(dirs), -1), 0, api.ErrForm)
}

// askRefused asks all calls of a plan that is not sound, with numbers that are right and wrong.
func askRefused(t *testing.T, what string, p api.Plan) {
	t.Helper()
	if a, e := need.Have(p); a != 0 || e != api.ErrForm {
		t.Error("Have:", what, a, e)
	}
	for _, n := range []int{0, 1, 5, 64, 513, 4257, 68097, 524288, 524289, -1, math.MinInt, math.MaxInt} {
		if a, e := need.File(p, n); a != 0 || e != api.ErrForm {
			t.Error("File:", what, n, a, e)
		}
		if a, e := need.Dir(p, n); a != 0 || e != api.ErrForm {
			t.Error("Dir:", what, n, a, e)
		}
		for _, lists := range [][2][]int{{nil, nil}, {{}, {}}, {{n}, nil}, {nil, {n}}, {{n}, {n}}} {
			if a, e := need.Tree(p, lists[0], lists[1]); a != 0 || e != api.ErrForm {
				t.Error("Tree:", what, lists, a, e)
			}
		}
	}
}

// TestRefusedPlans: P10.2, P10.3, with R2 and R3: a plan that is not sound, by one thing alone, is refused by all calls, whatever stands beside it.
func TestRefusedPlans(t *testing.T) {
	for name, p := range unsoundPlans() {
		askRefused(t, name, p)
	}
	// Each number of sound plans, turned to others.
	fields := func(p *api.Plan) []*int {
		return []*int{&p.Block, &p.Blocks, &p.Inodes, &p.Log, &p.LogAt, &p.IBits, &p.ILen, &p.BBits, &p.BLen, &p.Table, &p.TLen, &p.Data}
	}
	for _, block := range blockSizes {
		good := mustMake(t, block, 100, 10, 8)
		for i, f := range fields(&good) {
			for _, n := range append(slices.Clone(far), 0, *f-1, *f+1, 2**f, -*f) {
				p := good
				*fields(&p)[i] = n
				if plan.Check(p) != api.OK {
					askRefused(t, "one number", p)
				}
			}
		}
	}
}

// TestSoundTwins: P10.2, P10.3: plans that differ from the example's by a number that asks for just the same blocks are sound.
func TestSoundTwins(t *testing.T) {
	good := mustMake(t, 64, 100, 10, 8)
	for _, r := range []struct {
		blocks, inodes int
		have           complex128
	}{{18, 10, 1 + 9i}, {99, 10, 82 + 9i}, {512, 10, 495 + 9i}, {100, 9, 83 + 8i}} {
		p := good
		p.Blocks, p.Inodes = r.blocks, r.inodes
		if a, e := need.Have(p); a != r.have || e != api.OK {
			t.Error("Have:", r, a, e)
		}
		if a, e := need.File(p, 68096); a != 1098+1i || e != api.OK {
			t.Error("File:", r, a, e)
		}
		if a, e := need.Tree(p, []int{513, 0}, []int{5}); a != 12+3i || e != api.OK {
			t.Error("Tree:", r, a, e)
		}
	}
}

// TestTogether: P10.1 to P10.3, whether trees fit onto devices.
func TestTogether(t *testing.T) {
	p := mustMake(t, 64, 100, 10, 8)
	have, _ := need.Have(p)
	for _, r := range []struct {
		files, dirs []int
		fits        bool
	}{
		{nil, []int{0}, true}, {[]int{2561}, []int{100}, true}, {[]int{2561, 512}, []int{100}, true}, {[]int{2561, 512, 320}, []int{100}, true}, {[]int{2561, 512, 321}, []int{100}, false},
		{make([]int, 8), []int{8}, true}, {make([]int, 9), []int{9}, false}, {make([]int, 9), nil, true}, {[]int{68096}, nil, false},
	} {
		want, e := need.Tree(p, r.files, r.dirs)
		if e != api.OK {
			t.Fatal("Tree:", r, e)
		}
		if fits, e := need.Fits(want, have); fits != r.fits || e != api.OK {
			t.Error("Fits:", r, want, have, fits, e)
		}
	}
}
