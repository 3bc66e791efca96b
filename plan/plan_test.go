package plan_test

import (
	"math"
	"slices"
	"testing"

	"skerry/api"
	"skerry/plan"
)

// far are numbers that no plan has anything for.
var far = []int{math.MinInt, math.MinInt + 1, math.MinInt/2 - 1, math.MinInt32, -4096, -64, -2, -1, 1 << 25, math.MaxInt32, math.MaxUint32 + 1, math.MaxInt / 64, math.MaxInt/64 + 1, math.MaxInt/2 + 1, math.MaxInt - 63, math.MaxInt - 1, math.MaxInt}

var blockSizes = []int{64, 128, 256, 512, 1024, 2048, 4096}

// around are far numbers, and the ones given with those just beside them.
func around(some ...int) []int {
	list := slices.Clone(far)
	for _, n := range some {
		list = append(list, n-1, n, n+1)
	}
	slices.Sort(list)
	return slices.Compact(list)
}

// model is a device block by block: the region of each block, and block and byte of each inode.
type model struct {
	regions []int
	places  [][2]int
}

// newModel fills a device by nothing but the order in which things stand on it: each bitmap has one block more as long as it lacks bits, the table has one more as long as there are inodes left.
func newModel(block, blocks, inodes, log int) model {
	m := model{regions: []int{0, 1}}
	m.regions = append(m.regions, slices.Repeat([]int{2}, log)...)
	for bits := 0; bits < inodes; bits += 8 * block {
		m.regions = append(m.regions, 3)
	}
	for bits := 0; bits < blocks; bits += 8 * block {
		m.regions = append(m.regions, 4)
	}
	at := block
	for range inodes {
		if at == block {
			m.regions = append(m.regions, 5)
			at = 0
		}
		m.places = append(m.places, [2]int{len(m.regions) - 1, at})
		at += 32
	}
	for len(m.regions) < blocks {
		m.regions = append(m.regions, 6)
	}
	return m
}

func (m model) row(region int) (first, length int) {
	for _, r := range m.regions {
		if r == region {
			length++
		}
	}
	return slices.Index(m.regions, region), length
}

func wantMake(block, blocks, inodes, log int) (api.Plan, api.Errno) {
	if !slices.Contains(blockSizes, block) || blocks < 1 || blocks > 4096 || inodes < 2 || inodes > 1024 || log < 4 || log > 512 {
		return api.Plan{}, api.ErrArg
	}
	if block*blocks > 1048576 {
		return api.Plan{}, api.ErrLarge
	}
	m := newModel(block, blocks, inodes, log)
	if len(m.regions) > blocks || m.regions[blocks-1] != 6 {
		return api.Plan{}, api.ErrSmall
	}
	p := api.Plan{Block: block, Blocks: blocks, Inodes: inodes, Log: log}
	p.LogAt, _ = m.row(2)
	p.IBits, p.ILen = m.row(3)
	p.BBits, p.BLen = m.row(4)
	p.Table, p.TLen = m.row(5)
	p.Data, _ = m.row(6)
	return p, api.OK
}

func wantCheck(p api.Plan) api.Errno {
	if made, e := wantMake(p.Block, p.Blocks, p.Inodes, p.Log); e != api.OK || made != p {
		return api.ErrForm
	}
	return api.OK
}

// wantSize is the greatest size of a file: only with blocks of 64 bytes it is the pointers that bound it.
func wantSize(block int) int {
	if block == 64 {
		return 68096
	}
	return 524288
}

// allSteps are the ways to all blocks of a file, counted out in the order in which they are named.
func allSteps(block int) [][]int {
	var list [][]int
	for i := range 8 {
		list = append(list, []int{i})
	}
	for i := range block / 2 {
		list = append(list, []int{8, i})
	}
	for i := 0; i < block/2; i++ {
		for k := 0; k < block/2 && len(list)*block < wantSize(block); k++ {
			list = append(list, []int{9, i, k})
		}
	}
	return list[:wantSize(block)/block]
}

// pointerBlocks counts the blocks with pointers that stand on the ways to the first blocks of a file: one on a way of two steps, two on a way of three.
func pointerBlocks(steps [][]int) int {
	seen := map[[2]int]bool{}
	for _, s := range steps {
		if len(s) > 1 {
			seen[[2]int{s[0], -1}] = true
		}
		if len(s) > 2 {
			seen[[2]int{s[0], s[1]}] = true
		}
	}
	return len(seen)
}

func mustMake(t *testing.T, block, blocks, inodes, log int) api.Plan {
	t.Helper()
	p, e := plan.Make(block, blocks, inodes, log)
	if e != api.OK {
		t.Fatal("Make:", block, blocks, inodes, log, e)
	}
	return p
}

// plans are some of each block size: of few blocks and of as many as there may be, with bitmaps of one block and of more, with a table whose last block is full and one whose last is not.
func plans(t *testing.T) []api.Plan {
	t.Helper()
	list := []api.Plan{mustMake(t, 64, 100, 10, 8), mustMake(t, 64, 100, 9, 8), mustMake(t, 64, 513, 513, 4), mustMake(t, 64, 4096, 1024, 512)}
	for _, block := range blockSizes {
		list = append(list, mustMake(t, block, 10, 2, 4), mustMake(t, block, min(1048576/block, 4096), 131, 40))
	}
	return list
}

// twisted are plans like p but for one number.
func twisted(p api.Plan) []api.Plan {
	var list []api.Plan
	fields := func(p *api.Plan) []*int {
		return []*int{&p.Block, &p.Blocks, &p.Inodes, &p.Log, &p.LogAt, &p.IBits, &p.ILen, &p.BBits, &p.BLen, &p.Table, &p.TLen, &p.Data}
	}
	for i, f := range fields(&p) {
		for _, n := range append(around(0, *f), 2**f, -*f) {
			if n != *f {
				q := p
				*fields(&q)[i] = n
				list = append(list, q)
			}
		}
	}
	return list
}

// TestMake: P5.1, by plans that are written out.
func TestMake(t *testing.T) {
	for _, want := range []api.Plan{
		{Block: 64, Blocks: 100, Inodes: 10, Log: 8, LogAt: 2, IBits: 10, ILen: 1, BBits: 11, BLen: 1, Table: 12, TLen: 5, Data: 17},
		{Block: 64, Blocks: 18, Inodes: 10, Log: 8, LogAt: 2, IBits: 10, ILen: 1, BBits: 11, BLen: 1, Table: 12, TLen: 5, Data: 17},
		{Block: 64, Blocks: 100, Inodes: 9, Log: 8, LogAt: 2, IBits: 10, ILen: 1, BBits: 11, BLen: 1, Table: 12, TLen: 5, Data: 17},
		{Block: 64, Blocks: 100, Inodes: 11, Log: 8, LogAt: 2, IBits: 10, ILen: 1, BBits: 11, BLen: 1, Table: 12, TLen: 6, Data: 18},
		{Block: 64, Blocks: 10, Inodes: 2, Log: 4, LogAt: 2, IBits: 6, ILen: 1, BBits: 7, BLen: 1, Table: 8, TLen: 1, Data: 9},
		{Block: 64, Blocks: 512, Inodes: 512, Log: 4, LogAt: 2, IBits: 6, ILen: 1, BBits: 7, BLen: 1, Table: 8, TLen: 256, Data: 264},
		{Block: 64, Blocks: 513, Inodes: 512, Log: 4, LogAt: 2, IBits: 6, ILen: 1, BBits: 7, BLen: 2, Table: 9, TLen: 256, Data: 265},
		{Block: 64, Blocks: 512, Inodes: 513, Log: 4, LogAt: 2, IBits: 6, ILen: 2, BBits: 8, BLen: 1, Table: 9, TLen: 257, Data: 266},
		{Block: 64, Blocks: 4096, Inodes: 1024, Log: 512, LogAt: 2, IBits: 514, ILen: 2, BBits: 516, BLen: 8, Table: 524, TLen: 512, Data: 1036},
		{Block: 64, Blocks: 1036, Inodes: 1024, Log: 512, LogAt: 2, IBits: 514, ILen: 2, BBits: 516, BLen: 3, Table: 519, TLen: 512, Data: 1031},
		{Block: 128, Blocks: 4096, Inodes: 1024, Log: 512, LogAt: 2, IBits: 514, ILen: 1, BBits: 515, BLen: 4, Table: 519, TLen: 256, Data: 775},
		{Block: 256, Blocks: 4096, Inodes: 1024, Log: 512, LogAt: 2, IBits: 514, ILen: 1, BBits: 515, BLen: 2, Table: 517, TLen: 128, Data: 645},
		{Block: 512, Blocks: 2048, Inodes: 17, Log: 20, LogAt: 2, IBits: 22, ILen: 1, BBits: 23, BLen: 1, Table: 24, TLen: 2, Data: 26},
		{Block: 1024, Blocks: 1024, Inodes: 33, Log: 5, LogAt: 2, IBits: 7, ILen: 1, BBits: 8, BLen: 1, Table: 9, TLen: 2, Data: 11},
		{Block: 2048, Blocks: 512, Inodes: 64, Log: 5, LogAt: 2, IBits: 7, ILen: 1, BBits: 8, BLen: 1, Table: 9, TLen: 1, Data: 10},
		{Block: 4096, Blocks: 256, Inodes: 1024, Log: 200, LogAt: 2, IBits: 202, ILen: 1, BBits: 203, BLen: 1, Table: 204, TLen: 8, Data: 212},
	} {
		p, e := plan.Make(want.Block, want.Blocks, want.Inodes, want.Log)
		if p != want || e != api.OK {
			t.Errorf("Make: %+v %d, not %+v", p, e, want)
		}
		if e := plan.Check(want); e != api.OK {
			t.Errorf("Check(%+v): %d", want, e)
		}
	}
}

// TestMakeRefused: P5.1, by errors that are written out, several at one time too.
func TestMakeRefused(t *testing.T) {
	for _, r := range []struct {
		block, blocks, inodes, log int
		e                          api.Errno
	}{
		{65, 100, 10, 8, api.ErrArg}, {63, 100, 10, 8, api.ErrArg}, {32, 100, 10, 8, api.ErrArg}, {0, 100, 10, 8, api.ErrArg}, {-64, 100, 10, 8, api.ErrArg}, {96, 100, 10, 8, api.ErrArg}, {4095, 100, 10, 8, api.ErrArg}, {4097, 100, 10, 8, api.ErrArg}, {8192, 100, 10, 8, api.ErrArg},
		{64, 0, 10, 8, api.ErrArg}, {64, -1, 10, 8, api.ErrArg}, {64, 4097, 10, 8, api.ErrArg}, {64, 100, 1, 8, api.ErrArg}, {64, 100, 0, 8, api.ErrArg}, {64, 100, -2, 8, api.ErrArg}, {64, 4096, 1025, 8, api.ErrArg}, {64, 100, 10, 3, api.ErrArg}, {64, 100, 10, 0, api.ErrArg}, {64, 100, 10, -4, api.ErrArg}, {64, 4096, 10, 513, api.ErrArg},
		{math.MinInt, 100, 10, 8, api.ErrArg}, {math.MaxInt, 100, 10, 8, api.ErrArg}, {64, math.MinInt, 10, 8, api.ErrArg}, {64, math.MaxInt, 10, 8, api.ErrArg}, {64, 100, math.MinInt, 8, api.ErrArg}, {64, 100, math.MaxInt, 8, api.ErrArg}, {64, 100, 10, math.MinInt, api.ErrArg}, {64, 100, 10, math.MaxInt, api.ErrArg},
		{math.MinInt, math.MinInt, math.MinInt, math.MinInt, api.ErrArg}, {math.MaxInt, math.MaxInt, math.MaxInt, math.MaxInt, api.ErrArg}, {0, 0, 0, 0, api.ErrArg},
		{4096, 300, 10, 8, api.ErrLarge}, {4096, 257, 10, 8, api.ErrLarge}, {4096, 4096, 10, 8, api.ErrLarge}, {2048, 513, 10, 8, api.ErrLarge}, {1024, 1025, 10, 8, api.ErrLarge}, {512, 2049, 10, 8, api.ErrLarge},
		{4096, 256, 10, 8, api.OK}, {2048, 512, 10, 8, api.OK}, {1024, 1024, 10, 8, api.OK}, {512, 2048, 10, 8, api.OK}, {256, 4096, 10, 8, api.OK},
		{64, 17, 10, 8, api.ErrSmall}, {64, 16, 10, 8, api.ErrSmall}, {64, 1, 2, 4, api.ErrSmall}, {64, 9, 2, 4, api.ErrSmall}, {4096, 9, 2, 4, api.ErrSmall}, {64, 517, 512, 256, api.ErrSmall}, {64, 518, 512, 256, api.OK}, {4096, 256, 1024, 512, api.ErrSmall}, {64, 1031, 1024, 512, api.ErrSmall}, {64, 1032, 1024, 512, api.OK},
		{64, 256, 2, 248, api.OK}, {64, 512, 2, 507, api.ErrSmall}, {64, 512, 2, 506, api.OK}, {64, 513, 2, 507, api.ErrSmall}, {64, 514, 2, 507, api.OK},
		{4096, 4097, 10, 8, api.ErrArg}, {4096, 300, 1, 8, api.ErrArg}, {4096, 300, 10, 513, api.ErrArg}, {64, 1, 1, 8, api.ErrArg}, {64, 1, 10, 3, api.ErrArg}, {65, 1, 10, 8, api.ErrArg}, {4096, 257, 1024, 512, api.ErrLarge},
	} {
		p, e := plan.Make(r.block, r.blocks, r.inodes, r.log)
		if e != r.e || e != api.OK && p != (api.Plan{}) {
			t.Errorf("Make(%+v): %+v %d", r, p, e)
		}
	}
}

// TestAllMakes: P5.1 and R1, all block sizes and numbers beside them, with the edges of all other numbers.
func TestAllMakes(t *testing.T) {
	blocks := append(around(1, 2, 10, 17, 100, 256, 257, 512, 520, 1024, 1034, 2048, 4096), 300, 8192)
	inodes := append(around(2, 9, 64, 128, 512, 1024), 4096)
	logs := append(around(4, 8, 100, 512), 1024)
	for _, block := range append(around(append(blockSizes, 0, 32, 8192)...), 96, 192, 320, 3072) {
		for _, b := range blocks {
			for _, i := range inodes {
				for _, l := range logs {
					want, f := wantMake(block, b, i, l)
					if p, e := plan.Make(block, b, i, l); p != want || e != f {
						t.Fatalf("Make(%d, %d, %d, %d): %+v %d, not %+v %d", block, b, i, l, p, e, want, f)
					}
				}
			}
		}
	}
}

// TestLeastDevices: P5.1, a device of one block less than the least one is too small, whatever its other numbers.
func TestLeastDevices(t *testing.T) {
	for _, block := range blockSizes {
		for _, inodes := range []int{2, 3, 64, 65, 513, 1024} {
			for _, log := range []int{4, 5, 252, 506, 507, 512} {
				// As many blocks as the rows ahead of the data have, but for a few.
				rows := len(newModel(block, 1, inodes, log).regions)
				for blocks := max(1, rows-5); blocks <= rows+9 && block*blocks <= 1048576; blocks++ {
					want, f := wantMake(block, blocks, inodes, log)
					if p, e := plan.Make(block, blocks, inodes, log); p != want || e != f {
						t.Fatalf("Make(%d, %d, %d, %d): %+v %d, not %+v %d", block, blocks, inodes, log, p, e, want, f)
					}
				}
			}
		}
	}
}

// TestCheck: P5.1, by plans that are written out.
func TestCheck(t *testing.T) {
	good := api.Plan{Block: 64, Blocks: 100, Inodes: 10, Log: 8, LogAt: 2, IBits: 10, ILen: 1, BBits: 11, BLen: 1, Table: 12, TLen: 5, Data: 17}
	if e := plan.Check(good); e != api.OK {
		t.Error("Check:", e)
	}
	for name, twist := range map[string]func(p *api.Plan){
		"zero":                 func(p *api.Plan) { *p = api.Plan{} },
		"Block":                func(p *api.Plan) { p.Block = 128 },
		"Block that is none":   func(p *api.Plan) { p.Block = 65 },
		"Blocks, no data":      func(p *api.Plan) { p.Blocks = 17 },
		"Blocks, more bits":    func(p *api.Plan) { p.Blocks = 513 },
		"Blocks that are none": func(p *api.Plan) { p.Blocks = 0 },
		"Inodes":               func(p *api.Plan) { p.Inodes = 11 },
		"Inodes that are none": func(p *api.Plan) { p.Inodes = 1 },
		"Log":                  func(p *api.Plan) { p.Log = 9 },
		"Log that is none":     func(p *api.Plan) { p.Log = 3 },
		"LogAt":                func(p *api.Plan) { p.LogAt = 3 },
		"IBits":                func(p *api.Plan) { p.IBits = 9 },
		"ILen":                 func(p *api.Plan) { p.ILen = 0 },
		"BBits":                func(p *api.Plan) { p.BBits = 12 },
		"BLen":                 func(p *api.Plan) { p.BLen = 2 },
		"Table":                func(p *api.Plan) { p.Table = 13 },
		"TLen":                 func(p *api.Plan) { p.TLen = 4 },
		"Data":                 func(p *api.Plan) { p.Data = 18 },
	} {
		p := good
		twist(&p)
		if e := plan.Check(p); e != api.ErrForm {
			t.Error("Check with another one:", name, e)
		}
	}
	// Other numbers that ask for just the same blocks.
	for name, twist := range map[string]func(p *api.Plan){
		"Blocks, one data block": func(p *api.Plan) { p.Blocks = 18 },
		"Blocks, all bits":       func(p *api.Plan) { p.Blocks = 512 },
		"Inodes":                 func(p *api.Plan) { p.Inodes = 9 },
	} {
		p := good
		twist(&p)
		if e := plan.Check(p); e != api.OK {
			t.Error("Check with the same blocks:", name, e)
		}
	}
}

// TestCheckTwisted: P5.1, plans of which one number, whichever, is another one.
func TestCheckTwisted(t *testing.T) {
	for _, p := range plans(t) {
		if e := plan.Check(p); e != api.OK {
			t.Fatalf("Check(%+v): %d", p, e)
		}
		for _, q := range twisted(p) {
			if e, want := plan.Check(q), wantCheck(q); e != want {
				t.Fatalf("Check(%+v): %d, not %d", q, e, want)
			}
		}
	}
}

// TestPlace: P5.2, by places that are written out.
func TestPlace(t *testing.T) {
	for _, r := range []struct {
		block, inodes, inode, b, at int
		e                           api.Errno
	}{
		{64, 10, 0, 12, 0, api.OK}, {64, 10, 1, 12, 32, api.OK}, {64, 10, 2, 13, 0, api.OK}, {64, 10, 3, 13, 32, api.OK}, {64, 10, 9, 16, 32, api.OK}, {64, 9, 8, 16, 0, api.OK},
		{64, 10, -1, 0, 0, api.ErrRange}, {64, 10, 10, 0, 0, api.ErrRange}, {64, 9, 9, 0, 0, api.ErrRange}, {64, 10, math.MinInt, 0, 0, api.ErrRange}, {64, 10, math.MaxInt, 0, 0, api.ErrRange},
		{128, 10, 3, 12, 96, api.OK}, {128, 10, 4, 13, 0, api.OK}, {256, 10, 7, 12, 224, api.OK}, {256, 10, 8, 13, 0, api.OK}, {512, 40, 39, 14, 224, api.OK}, {1024, 40, 31, 12, 992, api.OK}, {1024, 40, 32, 13, 0, api.OK}, {2048, 65, 63, 12, 2016, api.OK}, {2048, 65, 64, 13, 0, api.OK},
		{4096, 1024, 127, 12, 4064, api.OK}, {4096, 1024, 128, 13, 0, api.OK}, {4096, 1024, 1023, 19, 4064, api.OK}, {4096, 1024, 1024, 0, 0, api.ErrRange},
	} {
		p := mustMake(t, r.block, 100, r.inodes, 8)
		if b, at, e := plan.Place(p, r.inode); b != r.b || at != r.at || e != r.e {
			t.Error("Place:", r, b, at, e)
		}
	}
}

// TestAllPlaces: P5.2, all inodes of some plans, and numbers that are none.
func TestAllPlaces(t *testing.T) {
	for _, p := range plans(t) {
		m := newModel(p.Block, p.Blocks, p.Inodes, p.Log)
		for i, want := range m.places {
			if b, at, e := plan.Place(p, i); b != want[0] || at != want[1] || e != api.OK {
				t.Fatalf("Place(%+v, %d): %d %d %d, not %d", p, i, b, at, e, want)
			}
		}
		for _, i := range append(around(), p.Inodes, p.Inodes+1, 1024, 1025, 4096) {
			if b, at, e := plan.Place(p, i); b != 0 || at != 0 || e != api.ErrRange {
				t.Fatalf("Place(%+v, %d): %d %d %d", p, i, b, at, e)
			}
		}
	}
}

// TestRegion: P5.2, the first and the last block of each row, written out, and blocks beside the device.
func TestRegion(t *testing.T) {
	p := mustMake(t, 64, 1100, 600, 30)
	for _, r := range [][3]int{
		{0, 0, 0}, {1, 1, 0}, {2, 2, 0}, {31, 2, 0}, {32, 3, 0}, {33, 3, 0}, {34, 4, 0}, {36, 4, 0}, {37, 5, 0}, {336, 5, 0}, {337, 6, 0}, {1099, 6, 0},
		{-1, 0, int(api.ErrRange)}, {1100, 0, int(api.ErrRange)}, {1101, 0, int(api.ErrRange)}, {4095, 0, int(api.ErrRange)}, {math.MinInt, 0, int(api.ErrRange)}, {math.MaxInt, 0, int(api.ErrRange)},
	} {
		if region, e := plan.Region(p, r[0]); region != r[1] || int(e) != r[2] {
			t.Error("Region:", r, region, e)
		}
	}
}

// TestAllRegions: P5.2, all blocks of some plans, and numbers that are none.
func TestAllRegions(t *testing.T) {
	for _, p := range plans(t) {
		m := newModel(p.Block, p.Blocks, p.Inodes, p.Log)
		for b, want := range m.regions {
			if region, e := plan.Region(p, b); region != want || e != api.OK {
				t.Fatalf("Region(%+v, %d): %d %d, not %d", p, b, region, e, want)
			}
		}
		for _, b := range append(around(), p.Blocks, p.Blocks+1, 4096, 4097) {
			if region, e := plan.Region(p, b); region != 0 || e != api.ErrRange {
				t.Fatalf("Region(%+v, %d): %d %d", p, b, region, e)
			}
		}
	}
}

// TestMaxSize: P5.3, by sizes that are written out: the pointers bound only files of the least blocks.
func TestMaxSize(t *testing.T) {
	for _, r := range [][2]int{{64, 68096}, {128, 524288}, {256, 524288}, {512, 524288}, {1024, 524288}, {2048, 524288}, {4096, 524288}} {
		for _, p := range []api.Plan{mustMake(t, r[0], 10, 2, 4), mustMake(t, r[0], 200, 30, 20)} {
			if n, e := plan.MaxSize(p); n != r[1] || e != api.OK {
				t.Error("MaxSize:", r, n, e)
			}
		}
	}
}

// TestSteps: P5.3, by steps that are written out.
func TestSteps(t *testing.T) {
	for _, r := range []struct {
		block, i int
		want     []int
		e        api.Errno
	}{
		{64, 0, []int{0}, api.OK}, {64, 7, []int{7}, api.OK}, {64, 8, []int{8, 0}, api.OK}, {64, 39, []int{8, 31}, api.OK}, {64, 40, []int{9, 0, 0}, api.OK}, {64, 71, []int{9, 0, 31}, api.OK}, {64, 72, []int{9, 1, 0}, api.OK}, {64, 73, []int{9, 1, 1}, api.OK},
		{64, 1063, []int{9, 31, 31}, api.OK}, {64, 1064, nil, api.ErrRange}, {64, -1, nil, api.ErrRange}, {64, math.MinInt, nil, api.ErrRange}, {64, math.MaxInt, nil, api.ErrRange}, {64, math.MaxInt/64 + 1, nil, api.ErrRange},
		{128, 7, []int{7}, api.OK}, {128, 8, []int{8, 0}, api.OK}, {128, 71, []int{8, 63}, api.OK}, {128, 72, []int{9, 0, 0}, api.OK}, {128, 4095, []int{9, 62, 55}, api.OK}, {128, 4096, nil, api.ErrRange},
		{256, 135, []int{8, 127}, api.OK}, {256, 136, []int{9, 0, 0}, api.OK}, {256, 2047, []int{9, 14, 119}, api.OK}, {256, 2048, nil, api.ErrRange},
		{512, 263, []int{8, 255}, api.OK}, {512, 264, []int{9, 0, 0}, api.OK}, {512, 1023, []int{9, 2, 247}, api.OK}, {512, 1024, nil, api.ErrRange},
		{1024, 511, []int{8, 503}, api.OK}, {1024, 512, nil, api.ErrRange}, {2048, 255, []int{8, 247}, api.OK}, {2048, 256, nil, api.ErrRange},
		{4096, 7, []int{7}, api.OK}, {4096, 8, []int{8, 0}, api.OK}, {4096, 127, []int{8, 119}, api.OK}, {4096, 128, nil, api.ErrRange},
	} {
		p := mustMake(t, r.block, 100, 10, 8)
		if out, e := plan.Steps(p, r.i); !slices.Equal(out, r.want) || e != r.e {
			t.Error("Steps:", r, out, e)
		}
	}
}

// TestAllSteps: P5.3, all blocks of files of each block size, and numbers that are none.
func TestAllSteps(t *testing.T) {
	for _, block := range blockSizes {
		p := mustMake(t, block, 100, 10, 8)
		list := allSteps(block)
		for i, want := range list {
			if out, e := plan.Steps(p, i); !slices.Equal(out, want) || e != api.OK {
				t.Fatalf("Steps(%d, %d): %v %d, not %v", block, i, out, e, want)
			}
		}
		for _, i := range append(around(), len(list), len(list)+1, 524288/block+1, 524288) {
			if out, e := plan.Steps(p, i); len(out) != 0 || e != api.ErrRange {
				t.Fatalf("Steps(%d, %d): %v %d", block, i, out, e)
			}
		}
	}
}

// TestWhole: P5.4, by numbers that are written out.
func TestWhole(t *testing.T) {
	for _, r := range []struct {
		block, size, data, pointers int
		e                           api.Errno
	}{
		{64, 0, 0, 0, api.OK}, {64, 1, 1, 0, api.OK}, {64, 63, 1, 0, api.OK}, {64, 64, 1, 0, api.OK}, {64, 65, 2, 0, api.OK},
		{64, 511, 8, 0, api.OK}, {64, 512, 8, 0, api.OK}, {64, 513, 9, 1, api.OK}, {64, 2559, 40, 1, api.OK}, {64, 2560, 40, 1, api.OK}, {64, 2561, 41, 3, api.OK},
		{64, 4608, 72, 3, api.OK}, {64, 4609, 73, 4, api.OK}, {64, 68095, 1064, 34, api.OK}, {64, 68096, 1064, 34, api.OK}, {64, 68097, 0, 0, api.ErrRange}, {64, 524288, 0, 0, api.ErrRange},
		{64, -1, 0, 0, api.ErrRange}, {64, -64, 0, 0, api.ErrRange}, {64, math.MinInt, 0, 0, api.ErrRange}, {64, math.MaxInt, 0, 0, api.ErrRange}, {64, math.MaxInt - 63, 0, 0, api.ErrRange},
		{128, 1024, 8, 0, api.OK}, {128, 1025, 9, 1, api.OK}, {128, 9216, 72, 1, api.OK}, {128, 9217, 73, 3, api.OK}, {128, 524288, 4096, 65, api.OK}, {128, 524289, 0, 0, api.ErrRange}, {128, 533504, 0, 0, api.ErrRange},
		{256, 34816, 136, 1, api.OK}, {256, 34817, 137, 3, api.OK}, {256, 524288, 2048, 17, api.OK}, {256, 524289, 0, 0, api.ErrRange}, {512, 135168, 264, 1, api.OK}, {512, 135169, 265, 3, api.OK}, {512, 524288, 1024, 5, api.OK},
		{1024, 524288, 512, 1, api.OK}, {1024, 524289, 0, 0, api.ErrRange}, {2048, 16384, 8, 0, api.OK}, {2048, 16385, 9, 1, api.OK}, {2048, 524288, 256, 1, api.OK},
		{4096, 0, 0, 0, api.OK}, {4096, 4096, 1, 0, api.OK}, {4096, 4097, 2, 0, api.OK}, {4096, 32768, 8, 0, api.OK}, {4096, 32769, 9, 1, api.OK}, {4096, 524288, 128, 1, api.OK}, {4096, 524289, 0, 0, api.ErrRange}, {4096, -1, 0, 0, api.ErrRange},
	} {
		p := mustMake(t, r.block, 100, 10, 8)
		if data, pointers, e := plan.Whole(p, r.size); data != r.data || pointers != r.pointers || e != r.e {
			t.Error("Whole:", r, data, pointers, e)
		}
	}
}

// TestAllWholes: P5.4, files that end around the edges of all their blocks, held against the ways to these blocks.
func TestAllWholes(t *testing.T) {
	for _, block := range blockSizes {
		p := mustMake(t, block, 100, 10, 8)
		steps := allSteps(block)
		for n := 1; n <= len(steps); n++ {
			if n > 80 && n%(block/2) > 9 && n < len(steps) {
				continue
			}
			pointers := pointerBlocks(steps[:n])
			for _, size := range []int{n*block - block + 1, n*block - block + 2, n*block - block/2, n*block - 1, n * block} {
				if d, q, e := plan.Whole(p, size); d != n || q != pointers || e != api.OK {
					t.Fatalf("Whole(%d, %d): %d %d %d, not %d %d", block, size, d, q, e, n, pointers)
				}
			}
		}
		for _, size := range append(around(), len(steps)*block+1, len(steps)*block+block, 1<<20) {
			if d, q, e := plan.Whole(p, size); d != 0 || q != 0 || e != api.ErrRange {
				t.Fatalf("Whole(%d, %d): %d %d %d", block, size, d, q, e)
			}
		}
	}
}

// TestRefusedPlans: the sentence behind P5.1, with R2 and R3: a plan that Check refuses is refused by all calls, whatever the number beside it.
func TestRefusedPlans(t *testing.T) {
	numbers := around(0, 7, 8, 17, 100)
	for _, p := range append(plans(t), api.Plan{}) {
		for _, q := range append(twisted(p), api.Plan{}) {
			if wantCheck(q) == api.OK {
				continue
			}
			if n, e := plan.MaxSize(q); n != 0 || e != api.ErrForm {
				t.Fatalf("MaxSize(%+v): %d %d", q, n, e)
			}
			for _, n := range numbers {
				if b, at, e := plan.Place(q, n); b != 0 || at != 0 || e != api.ErrForm {
					t.Fatalf("Place(%+v, %d): %d %d %d", q, n, b, at, e)
				}
				if region, e := plan.Region(q, n); region != 0 || e != api.ErrForm {
					t.Fatalf("Region(%+v, %d): %d %d", q, n, region, e)
				}
				if out, e := plan.Steps(q, n); len(out) != 0 || e != api.ErrForm {
					t.Fatalf("Steps(%+v, %d): %v %d", q, n, out, e)
				}
				if d, c, e := plan.Whole(q, n); d != 0 || c != 0 || e != api.ErrForm {
					t.Fatalf("Whole(%+v, %d): %d %d %d", q, n, d, c, e)
				}
			}
		}
	}
}

// turnOver writes over a list and the room behind it.
func turnOver(list []int) {
	list = list[:cap(list)]
	for i := range list {
		list[i] = ^list[i]
	}
}

// TestStepsApart: R4 and R5, of answers of one question the later ones stay as they are when the earlier ones are written over, the room behind them too.
func TestStepsApart(t *testing.T) {
	p := mustMake(t, 64, 100, 10, 8)
	for i, want := range map[int][]int{0: {0}, 7: {7}, 8: {8, 0}, 39: {8, 31}, 40: {9, 0, 0}, 1063: {9, 31, 31}} {
		first, _ := plan.Steps(p, i)
		second, _ := plan.Steps(p, i)
		other, _ := plan.Steps(p, 1000)
		turnOver(first)
		third, _ := plan.Steps(p, i)
		if !slices.Equal(second, want) || !slices.Equal(third, want) || !slices.Equal(other, []int{9, 30, 0}) {
			t.Error("Steps:", i, second, third, other)
		}
		turnOver(third)
		turnOver(other)
		if !slices.Equal(second, want) {
			t.Error("Steps shares memory:", i, second)
		}
		if again, e := plan.Steps(p, 1000); !slices.Equal(again, []int{9, 30, 0}) || e != api.OK {
			t.Error("Steps:", again, e)
		}
	}
}

// TestErrorsLeaveNothing: R5 and R6, calls that are refused, and calls for other plans, change no later answer.
func TestErrorsLeaveNothing(t *testing.T) {
	p, other := mustMake(t, 64, 100, 10, 8), mustMake(t, 4096, 256, 1024, 100)
	for range 3 {
		plan.Make(64, 17, 10, 8)
		plan.Make(0, 0, 0, 0)
		plan.Check(api.Plan{})
		plan.Place(p, 10)
		plan.Place(other, 1000)
		plan.Region(p, -1)
		plan.Region(other, 200)
		plan.MaxSize(other)
		plan.Steps(p, 1064)
		plan.Steps(other, 100)
		plan.Whole(p, -1)
		plan.Whole(other, 524288)
		if again, e := plan.Make(64, 100, 10, 8); again != p || e != api.OK || plan.Check(p) != api.OK {
			t.Error("Make:", again, e)
		}
		if b, at, e := plan.Place(p, 3); b != 13 || at != 32 || e != api.OK {
			t.Error("Place:", b, at, e)
		}
		if region, e := plan.Region(p, 12); region != 5 || e != api.OK {
			t.Error("Region:", region, e)
		}
		if n, e := plan.MaxSize(p); n != 68096 || e != api.OK {
			t.Error("MaxSize:", n, e)
		}
		if out, e := plan.Steps(p, 73); !slices.Equal(out, []int{9, 1, 1}) || e != api.OK {
			t.Error("Steps:", out, e)
		}
		if d, q, e := plan.Whole(p, 2561); d != 41 || q != 3 || e != api.OK {
			t.Error("Whole:", d, q, e)
		}
	}
}

// TestTogether: P5.2 to P5.4, inodes stand in blocks of the table, no two at one place; the last block of a whole file is reached, the one behind MaxSize is not.
func TestTogether(t *testing.T) {
	for _, p := range plans(t) {
		taken := map[[2]int]bool{}
		for i := range p.Inodes {
			b, at, _ := plan.Place(p, i)
			if region, e := plan.Region(p, b); region != 5 || e != api.OK || taken[[2]int{b, at}] || at < 0 || at+32 > p.Block {
				t.Fatal("Place:", p, i, b, at, region, e)
			}
			taken[[2]int{b, at}] = true
		}
		size, _ := plan.MaxSize(p)
		data, pointers, e := plan.Whole(p, size)
		if e != api.OK || data*p.Block != size || pointers == 0 {
			t.Fatal("Whole:", p, data, pointers, e)
		}
		if _, e := plan.Steps(p, data-1); e != api.OK {
			t.Fatal("Steps:", p, data-1, e)
		}
		if _, e := plan.Steps(p, data); e != api.ErrRange {
			t.Fatal("Steps:", p, data, e)
		}
	}
}
