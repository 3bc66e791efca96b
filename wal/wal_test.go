package wal_test

import (
	"bytes"
	"math"
	"slices"
	"testing"

	"skerry/api"
	"skerry/device"
	"skerry/plan"
	"skerry/wal"
)

// far are numbers that no device and no log has anything for.
var far = []int{math.MinInt, math.MinInt + 1, math.MinInt/2 - 1, math.MinInt32 - 1, math.MinInt32, -4096, -64, -2, 1 << 21, math.MaxInt32, math.MaxUint32, math.MaxUint32 + 1, math.MaxUint32 + 20, math.MaxInt / 64, math.MaxInt/2 + 1, math.MaxInt - 63, math.MaxInt - 1, math.MaxInt}

// around are far numbers, and the ones given with those just beside them.
func around(some ...int) []int {
	list := slices.Clone(far)
	for _, n := range some {
		list = append(list, n-1, n, n+1)
	}
	slices.Sort(list)
	return slices.Compact(list)
}

// sizes are all that a block may have.
var sizes = []int{64, 128, 256, 512, 1024, 2048, 4096}

// marked answers a block of bytes that no other mark below 60000 has.
func marked(n, mark int) []byte {
	b := make([]byte, n)
	for i := range b {
		b[i] = byte(mark + 31*i + i*i*(mark/251))
	}
	copy(b[n-2:], []byte{byte(mark / 250), byte(mark % 250)})
	return b
}

// planned answers a plan that must be there.
func planned(t *testing.T, block, blocks, inodes, log int) api.Plan {
	t.Helper()
	p, e := plan.Make(block, blocks, inodes, log)
	if e != api.OK {
		t.Fatalf("plan.Make(%d, %d, %d, %d): %d", block, blocks, inodes, log, e)
	}
	return p
}

// before is what stands in a block of a device ahead of all calls.
func before(p api.Plan, b int) []byte {
	return marked(p.Block, 50000+b)
}

// stood answers a device of the plan, in each of whose blocks something stands, but nothing of a log.
func stood(t *testing.T, p api.Plan) *device.Device {
	t.Helper()
	d, e := device.New(p.Block, p.Blocks)
	if d == nil || e != api.OK {
		t.Fatalf("device.New: %v, %v", d, e)
	}
	for b := range p.Blocks {
		want(t, "Load", d.Load(b, before(p, b)), api.OK)
	}
	return d
}

// fresh answers a device with an empty log.
func fresh(t *testing.T, p api.Plan) *device.Device {
	t.Helper()
	return holding(t, p, api.Header{Seq: 1})
}

// holding answers a device on which the header h stands, and, from Tail on, these blocks.
func holding(t *testing.T, p api.Plan, h api.Header, ring ...[]byte) *device.Device {
	t.Helper()
	d := stood(t, p)
	want(t, "Load", d.Load(1, headerBytes(h, p.Block)), api.OK)
	for k, data := range ring {
		want(t, "Load", d.Load(p.LogAt+(h.Tail+k)%p.Log, data), api.OK)
	}
	return d
}

// made answers the log on a device; it must be there.
func made(t *testing.T, d *device.Device, p api.Plan) *wal.Log {
	t.Helper()
	l, e := wal.Open(d, p)
	if l == nil || e != api.OK {
		t.Fatalf("Open: %v, %v", l, e)
	}
	return l
}

// writes answers a list of these blocks, each with bytes of its own.
func writes(p api.Plan, mark int, blocks ...int) []api.Write {
	var list []api.Write
	for i, b := range blocks {
		list = append(list, api.Write{Block: b, Data: marked(p.Block, mark+i)})
	}
	return list
}

// row answers n blocks from the first one on that a log may have.
func row(p api.Plan, n int) []int {
	var list []int
	for i := range n {
		list = append(list, p.IBits+i)
	}
	return list
}

// want holds what a call answered against what it should.
func want(t *testing.T, call string, got, wanted api.Errno) {
	t.Helper()
	if got != wanted {
		t.Errorf("%s: %d, should be %d", call, got, wanted)
	}
}

// wantLog holds what a log tells against what it should.
func wantLog(t *testing.T, l *wal.Log, p api.Plan, h api.Header, pending []api.Write) {
	t.Helper()
	if l.Header() != h || l.Room() != p.Log-h.Used || !equal(l.Pending(), pending) {
		t.Errorf("Header %v, Room %d, Pending %v; should be %v, %d, %v", l.Header(), l.Room(), l.Pending(), h, p.Log-h.Used, pending)
	}
}

func wantRead(t *testing.T, d *device.Device, b int, wanted []byte) {
	t.Helper()
	if got, e := d.Read(b); e != api.OK || !bytes.Equal(got, wanted) {
		t.Errorf("Read(%d): %v, %v, should be %v", b, got, e, wanted)
	}
}

// wantNoLog holds an Open that is refused against the error that it should be.
func wantNoLog(t *testing.T, call string, d *device.Device, p api.Plan, wanted api.Errno) {
	t.Helper()
	if l, e := wal.Open(d, p); l != nil || e != wanted {
		t.Errorf("Open, %s: %v, %d, should be %d", call, l, e, wanted)
	}
}

// die lets a device be found dead.
func die(t *testing.T, d *device.Device) {
	t.Helper()
	want(t, "Fuse", d.Fuse(0), api.OK)
	want(t, "Flush", d.Flush(), api.ErrDead)
}

// image answers all that is read of a device.
func image(d *device.Device) [][]byte {
	var list [][]byte
	for b := range d.Blocks() {
		data, _ := d.Read(b)
		list = append(list, data)
	}
	return list
}

// untouched holds a device against what it was when it had done that many writes.
func untouched(t *testing.T, call string, d *device.Device, writes int, kept [][]byte) {
	t.Helper()
	if d.Writes() != writes || len(d.Waiting()) != 0 || !slices.EqualFunc(image(d), kept, bytes.Equal) {
		t.Errorf("%s: the device was written: %d writes, %v wait", call, d.Writes()-writes, d.Waiting())
	}
}

// unsound answers plans that are like p but for one number.
func unsound(p api.Plan) []api.Plan {
	var list []api.Plan
	for _, by := range []int{-1, 1, math.MinInt, math.MaxInt - 4096} {
		for i := range 12 {
			q := p
			*[]*int{&q.Block, &q.Blocks, &q.Inodes, &q.Log, &q.LogAt, &q.IBits, &q.ILen, &q.BBits, &q.BLen, &q.Table, &q.TLen, &q.Data}[i] += by
			// Fewer inodes or other blocks may well be a plan too.
			if plan.Check(q) != api.OK {
				list = append(list, q)
			}
		}
	}
	return append(list, api.Plan{}, api.Plan{Block: p.Block, Blocks: p.Blocks, Inodes: p.Inodes, Log: p.Log})
}

// TestExample: P9.1 to P9.5, the chapter's examples.
func TestExample(t *testing.T) {
	p := planned(t, 64, 60, 6, 8)
	for n, wanted := range map[int]int{1: 2, 27: 28, 28: 30} {
		if got, e := wal.Need(p, n); got != wanted || e != api.OK {
			t.Errorf("Need(%d): %d, %d", n, got, e)
		}
	}
	d := stood(t, p)
	want(t, "Format", wal.Format(d, p), api.OK)
	l := made(t, d, p)
	first := writes(p, 1, 20, 21)
	want(t, "Commit", l.Commit(first), api.OK)
	wantRead(t, d, p.LogAt, descBytes(1, []int{20, 21}, 64))
	wantRead(t, d, p.LogAt+1, first[0].Data)
	wantRead(t, d, p.LogAt+2, first[1].Data)
	wantLog(t, l, p, api.Header{Seq: 2, Used: 3}, first)
	again := writes(p, 5, 20)
	want(t, "Commit", l.Commit(again), api.OK)
	wantRead(t, d, p.LogAt+3, descBytes(2, []int{20}, 64))
	wantRead(t, d, p.LogAt+4, again[0].Data)
	wantLog(t, l, p, api.Header{Seq: 3, Used: 5}, []api.Write{again[0], first[1]})
	wantRead(t, d, 20, before(p, 20))
	more := writes(p, 7, 22, 23, 24)
	want(t, "Commit", l.Commit(more), api.OK)
	wantLog(t, l, p, api.Header{Seq: 4, Tail: 5, Used: 4}, more)
	wantRead(t, d, p.LogAt+5, descBytes(3, []int{22, 23, 24}, 64))
	for i, k := range []int{6, 7, 0} {
		wantRead(t, d, p.LogAt+k, more[i].Data)
	}
	wantRead(t, d, 20, again[0].Data)
	wantRead(t, d, 21, first[1].Data)
	wantRead(t, d, 22, before(p, 22))
}

// TestNeed: P9.1, numbers at the edges of parts and far from them, of every size of block, against counting block by block; plans that are not sound.
func TestNeed(t *testing.T) {
	for _, block := range sizes {
		p := planned(t, block, 60, 6, 8)
		most := mostOf(block)
		for _, n := range around(-1, 0, 1, most, 2*most, 3*most, 100, api.MaxLog, api.MaxBlocks) {
			got, e := wal.Need(p, n)
			if n < 0 || n > 4096 {
				if got != 0 || e != api.ErrArg {
					t.Errorf("Need(%d) of %d: %d, %d, should be ErrArg", n, block, got, e)
				}
				continue
			}
			wanted := 0
			for i := range n {
				if i%most == 0 {
					wanted++
				}
				wanted++
			}
			if got != wanted || e != api.OK {
				t.Errorf("Need(%d) of %d: %d, %d, should be %d", n, block, got, e, wanted)
			}
		}
		for _, q := range unsound(p) {
			for _, n := range around(0, 1, 4096) {
				if got, e := wal.Need(q, n); got != 0 || e != api.ErrForm {
					t.Errorf("Need(%v, %d): %d, %d, should be ErrForm", q, n, got, e)
				}
			}
		}
	}
	// What is needed hangs on the size of a block alone.
	small, great := planned(t, 64, 10, 2, 4), planned(t, 64, 4096, 1024, 512)
	for n := range 4097 {
		a, _ := wal.Need(small, n)
		b, _ := wal.Need(great, n)
		if a != b || a != n+(n+26)/27 {
			t.Fatalf("Need(%d): %d and %d", n, a, b)
		}
	}
}

// TestWhatFits: P9.1 and P9.2, devices that are nil, of another size of block, of another number of blocks, never made, or dead, with plans that are sound or not: Format and Open answer the same error, and write nothing.
func TestWhatFits(t *testing.T) {
	p := planned(t, 128, 60, 6, 8)
	others := []*device.Device{new(device.Device)}
	for _, n := range [][2]int{{64, 60}, {256, 60}, {128, 59}, {128, 61}, {64, 120}, {256, 30}, {60, 128}} {
		if d, e := device.New(n[0], n[1]); e == api.OK {
			others = append(others, d)
		}
	}
	for _, q := range append(unsound(p), p) {
		want(t, "Format of nil", wal.Format(nil, q), api.ErrArg)
		wantNoLog(t, "nil", nil, q, api.ErrArg)
	}
	for _, d := range others {
		kept := image(d)
		for _, q := range append(unsound(p), p) {
			want(t, "Format of another size", wal.Format(d, q), api.ErrForm)
			wantNoLog(t, "another size", d, q, api.ErrForm)
		}
		untouched(t, "another size", d, 0, kept)
	}
	for _, dead := range []bool{false, true} {
		d := fresh(t, p)
		kept := image(d)
		if dead {
			die(t, d)
		}
		for _, q := range unsound(p) {
			want(t, "Format with an unsound plan", wal.Format(d, q), api.ErrForm)
			wantNoLog(t, "an unsound plan", d, q, api.ErrForm)
		}
		if dead {
			want(t, "Format", wal.Format(d, p), api.ErrDead)
			wantNoLog(t, "dead", d, p, api.ErrDead)
			want(t, "Crash", d.Crash(nil), api.OK)
		}
		untouched(t, "refused", d, 0, kept)
		made(t, d, p)
	}
	// Another plan of the same size is no matter of the device.
	other := planned(t, 128, 60, 6, 9)
	d := fresh(t, p)
	wantLog(t, made(t, d, other), other, api.Header{Seq: 1}, nil)
}

// TestDeadThenCorrupt: P9.2 and R2, the device's error at reading comes ahead of what it would have read.
func TestDeadThenCorrupt(t *testing.T) {
	p := planned(t, 64, 60, 6, 8)
	d := stood(t, p)
	wantNoLog(t, "no header", d, p, api.ErrCorrupt)
	die(t, d)
	wantNoLog(t, "no header, dead", d, p, api.ErrDead)
	zero, _ := device.New(64, 60)
	wantNoLog(t, "all bytes 0", zero, p, api.ErrCorrupt)
}

// TestFormat: P9.1, of every size of block, on a device where nothing of a log stands, and where another log does: the header 1, 0, 0 has arrived, nothing else is written.
func TestFormat(t *testing.T) {
	for _, block := range sizes {
		p := planned(t, block, 60, 6, 8)
		for _, h := range []api.Header{{}, {Seq: 7, Tail: 3}, {Seq: 9, Tail: 7, Used: 8}, {Seq: math.MaxUint32, Tail: 65535, Used: 65535}} {
			d := holding(t, p, h)
			kept := image(d)
			kept[1] = headerBytes(api.Header{Seq: 1}, block)
			want(t, "Format", wal.Format(d, p), api.OK)
			untouched(t, "Format", d, 2, kept)
			want(t, "Crash", d.Crash(nil), api.OK)
			untouched(t, "Format", d, 2, kept)
			wantLog(t, made(t, d, p), p, api.Header{Seq: 1}, nil)
		}
	}
}

// wantSteps lets a call be cut off at every write and flush: how many were done, what waits, what has arrived and what is read must be what the steps say, one behind the other.
func wantSteps(t *testing.T, name string, make func() (*device.Device, func() api.Errno), steps []step) {
	t.Helper()
	for k := range len(steps) + 2 {
		for _, arrives := range []bool{false, true} {
			d, call := make()
			twin, _ := make()
			from := d.Writes()
			want(t, "Fuse", d.Fuse(k), api.OK)
			wanted := api.OK
			if k < len(steps) {
				wanted = api.ErrDead
			}
			want(t, name, call(), wanted)
			for _, s := range steps[:min(k, len(steps))] {
				want(t, "step", s.do(twin), api.OK)
			}
			if d.Writes()-from != min(k, len(steps)) || !slices.Equal(d.Waiting(), twin.Waiting()) || d.Dead() != (k < len(steps)) {
				t.Fatalf("%s, cut off at %d of %d: %d writes, %v wait, should be %v", name, k, len(steps), d.Writes()-from, d.Waiting(), twin.Waiting())
			}
			var picks []int
			if arrives {
				picks = slices.Repeat([]int{math.MaxInt}, d.Blocks())
			}
			want(t, "Crash", d.Crash(picks), api.OK)
			want(t, "Crash", twin.Crash(picks), api.OK)
			if !slices.EqualFunc(image(d), image(twin), bytes.Equal) {
				t.Fatalf("%s, cut off at %d of %d: not what the steps leave", name, k, len(steps))
			}
		}
	}
}

// TestSteps: P9.1, P9.3 and P9.4, what Format, Commit, Apply and the Apply within a Commit write, in which order and with which flush between, on a device whose fuse ends at every write and flush.
func TestSteps(t *testing.T) {
	p := planned(t, 64, 60, 6, 8)
	head := func(seq, tail, used int) step {
		return step{1, headerBytes(api.Header{Seq: seq, Tail: tail, Used: used}, 64)}
	}
	desc := func(at, seq int, list ...int) step { return step{p.LogAt + at, descBytes(seq, list, 64)} }
	data := func(b, mark int) step { return step{b, marked(64, mark)} }
	wantSteps(t, "Format", func() (*device.Device, func() api.Errno) {
		d := stood(t, p)
		return d, func() api.Errno { return wal.Format(d, p) }
	}, []step{head(1, 0, 0), flush})
	// behind answers a log behind some commits, and the call that is looked at.
	behind := func(call func(l *wal.Log) api.Errno, lists ...[]api.Write) func() (*device.Device, func() api.Errno) {
		return func() (*device.Device, func() api.Errno) {
			d := fresh(t, p)
			l := made(t, d, p)
			for _, list := range lists {
				want(t, "Commit", l.Commit(list), api.OK)
			}
			return d, func() api.Errno { return call(l) }
		}
	}
	commit := func(list []api.Write) func(l *wal.Log) api.Errno {
		return func(l *wal.Log) api.Errno { return l.Commit(list) }
	}
	first, again := writes(p, 1, 21, 20), writes(p, 5, 20)
	wantSteps(t, "Commit", behind(commit(first)),
		[]step{desc(0, 1, 21, 20), data(3, 1), data(4, 2), flush, head(2, 0, 3), flush})
	wantSteps(t, "Commit again", behind(commit(again), first),
		[]step{desc(3, 2, 20), data(6, 5), flush, head(3, 0, 5), flush})
	wantSteps(t, "Commit of just Room", behind(commit(writes(p, 7, 59, 10)), first, again),
		[]step{desc(5, 3, 59, 10), data(8, 7), data(9, 8), flush, head(4, 0, 8), flush})
	wantSteps(t, "Commit of just Log", behind(commit(writes(p, 7, row(p, 7)...))),
		[]step{desc(0, 1, row(p, 7)...), data(3, 7), data(4, 8), data(5, 9), data(6, 10), data(7, 11), data(8, 12), data(9, 13), flush, head(2, 0, 8), flush})
	wantSteps(t, "Commit of one more than Room", behind(commit(writes(p, 7, 22, 24, 23)), first, again),
		[]step{data(20, 5), data(21, 1), flush, head(3, 5, 0), flush,
			desc(5, 3, 22, 24, 23), data(8, 7), data(9, 8), data(2, 9), flush, head(4, 5, 4), flush})
	wantSteps(t, "Commit of just Log on a full one", behind(commit(writes(p, 20, row(p, 7)...)), writes(p, 7, row(p, 7)...)),
		[]step{data(10, 7), data(11, 8), data(12, 9), data(13, 10), data(14, 11), data(15, 12), data(16, 13), flush, head(2, 0, 0), flush,
			desc(0, 2, row(p, 7)...), data(3, 20), data(4, 21), data(5, 22), data(6, 23), data(7, 24), data(8, 25), data(9, 26), flush, head(3, 0, 8), flush})
	wantSteps(t, "Apply", behind((*wal.Log).Apply, first, again),
		[]step{data(20, 5), data(21, 1), flush, head(3, 5, 0), flush})
	wantSteps(t, "Apply of a full log", behind((*wal.Log).Apply, first, again, writes(p, 7, 59, 10)),
		[]step{data(10, 8), data(20, 5), data(21, 1), data(59, 7), flush, head(4, 0, 0), flush})
	wantSteps(t, "Apply of nothing", behind((*wal.Log).Apply), nil)
	wantSteps(t, "Commit of nothing", behind(commit(nil), first), nil)
	wantSteps(t, "Commit of nothing", behind(commit([]api.Write{}), first, again, writes(p, 7, 59, 10)), nil)
	wantSteps(t, "Commit that is refused", behind(func(l *wal.Log) api.Errno {
		want(t, "Commit", l.Commit(writes(p, 7, 22, 24, 9)), api.ErrRange)
		return api.OK
	}, first, again), nil)
}

// TestPartsInSteps: P9.3, a list of more than Most blocks: one part behind the other, over the ring's end, in the list's order; one flush behind all of them.
func TestPartsInSteps(t *testing.T) {
	p := planned(t, 64, 160, 4, 70)
	for _, tail := range []int{0, 12, 69} {
		h := api.Header{Seq: 5, Tail: tail}
		blocks := row(p, 60)
		slices.Reverse(blocks)
		list := writes(p, 100, blocks...)
		m := &model{p: p, h: h}
		var steps []step
		at := tail
		for i := range 60 {
			if i%27 == 0 {
				steps = append(steps, step{p.LogAt + at%70, descBytes(5+i/27, blocks[i:min(i+27, 60)], 64)})
				at++
			}
			steps = append(steps, step{p.LogAt + at%70, list[i].Data})
			at++
		}
		steps = append(steps, flush, step{1, headerBytes(api.Header{Seq: 8, Tail: tail, Used: 63}, 64)}, flush)
		if got, _ := m.commitSteps(list); !slices.EqualFunc(got, steps, func(a, b step) bool { return a.b == b.b && bytes.Equal(a.data, b.data) }) {
			t.Fatal("the model's steps are others")
		}
		wantSteps(t, "Commit", func() (*device.Device, func() api.Errno) {
			d := holding(t, p, h)
			l := made(t, d, p)
			return d, func() api.Errno { return l.Commit(list) }
		}, steps)
	}
}

// TestBlocks: P9.3 and R1, a block of a list just below the first one that the log carries, that one, the last one, one behind it, -1 and far ones, alone and among others.
func TestBlocks(t *testing.T) {
	for _, p := range plans(t) {
		for _, b := range around(0, 1, p.LogAt, p.IBits, p.BBits, p.Table, p.Data, p.Blocks-1, p.Blocks, 4095, 65535, 65536, 65536+p.IBits) {
			d := fresh(t, p)
			l := made(t, d, p)
			kept := image(d)
			list := writes(p, 1, b)
			if b != p.Data {
				list = writes(p, 1, p.Data, b)
			}
			wanted := api.OK
			if b < p.IBits || b >= p.Blocks {
				wanted = api.ErrRange
			}
			want(t, "Commit", l.Commit(list), wanted)
			if wanted != api.OK {
				untouched(t, "Commit", d, 0, kept)
				wantLog(t, l, p, api.Header{Seq: 1}, nil)
				continue
			}
			slices.SortFunc(list, func(v, w api.Write) int { return v.Block - w.Block })
			wantLog(t, l, p, api.Header{Seq: 2, Used: 1 + len(list)}, list)
			want(t, "Apply", l.Apply(), api.OK)
			for _, w := range list {
				wantRead(t, d, w.Block, w.Data)
			}
		}
	}
}

// TestLengths: P9.3, data of one byte less and more than a block, of none, nil, of other sizes of block, in each place of a list.
func TestLengths(t *testing.T) {
	for _, block := range sizes {
		p := planned(t, block, 40, 4, 8)
		d := fresh(t, p)
		l := made(t, d, p)
		kept := image(d)
		for _, n := range []int{-1, 0, 1, block - 1, block + 1, block / 2, 2 * block, 8192} {
			for at := range 3 {
				list := writes(p, 1, 20, 21, 22)
				list[at].Data = nil
				if n >= 0 {
					list[at].Data = make([]byte, n)
				}
				want(t, "Commit", l.Commit(list), api.ErrArg)
				want(t, "Commit", l.Commit(list[at:at+1]), api.ErrArg)
			}
		}
		untouched(t, "Commit", d, 0, kept)
		wantLog(t, l, p, api.Header{Seq: 1}, nil)
		want(t, "Commit", l.Commit(writes(p, 1, 20, 21, 22)), api.OK)
	}
}

// TestTwice: P9.3, lists with a block twice, in all places, beside each other or not.
func TestTwice(t *testing.T) {
	p := planned(t, 64, 60, 6, 8)
	d := fresh(t, p)
	l := made(t, d, p)
	kept := image(d)
	for one := range 6 {
		for two := range one {
			blocks := []int{30, 20, 59, 10, 25, 40}
			blocks[one] = blocks[two]
			want(t, "Commit", l.Commit(writes(p, 1, blocks...)), api.ErrValue)
			list := writes(p, 1, blocks...)
			list[one] = list[two]
			want(t, "Commit of the same twice", l.Commit(list), api.ErrValue)
		}
	}
	untouched(t, "Commit", d, 0, kept)
	wantLog(t, l, p, api.Header{Seq: 1}, nil)
	want(t, "Commit", l.Commit(writes(p, 1, 30, 20, 59, 10, 25, 40)), api.OK)
}

// TestErrorsInOrder: P9.3, P9.5, P9.6 and R2, lists for which several errors hold, wherever in the list: wrong data, no block, a block twice, too many, no Seq left; on a log that lives, and on one that has met ErrDead.
func TestErrorsInOrder(t *testing.T) {
	p := planned(t, 64, 60, 6, 8)
	for k := range 64 {
		has := func(i int) bool { return k>>i&1 != 0 }
		for _, turned := range []bool{false, true} {
			h := api.Header{Seq: 2, Used: 2}
			if has(4) {
				h.Seq = math.MaxUint32
			}
			// Something is pending, so that Apply meets a dead device also where no Seq is left.
			old := writes(p, 30, 22)
			d := holding(t, p, h, descBytes(h.Seq-1, []int{22}, 64), old[0].Data)
			l := made(t, d, p)
			list := writes(p, 1, 20, 21)
			wanted := api.OK
			// From the last error on, so that the one that is told stays.
			if has(5) {
				die(t, d)
				want(t, "Apply", l.Apply(), api.ErrDead)
				wanted = api.ErrDead
			}
			if has(4) {
				wanted = api.ErrFull
			}
			if has(3) {
				list, wanted = append(list, writes(p, 5, 30, 31, 32, 33, 34, 35)...), api.ErrLarge
			}
			if has(2) {
				list, wanted = append(list, writes(p, 11, 20)...), api.ErrValue
			}
			if has(1) {
				list, wanted = append(list, writes(p, 12, 60)...), api.ErrRange
			}
			if has(0) {
				list, wanted = append(list, api.Write{Block: 40, Data: marked(64, 13)[1:]}), api.ErrArg
			}
			if turned {
				slices.Reverse(list)
			}
			kept := d.Writes()
			want(t, "Commit", l.Commit(list), wanted)
			if wanted == api.OK {
				continue
			}
			if d.Writes() != kept {
				t.Errorf("errors %b: %d writes", k, d.Writes()-kept)
			}
			wantLog(t, l, p, h, old)
			if has(5) {
				// What was refused for another error has not brought the log back.
				want(t, "Apply", l.Apply(), api.ErrDead)
				want(t, "Commit of nothing", l.Commit(nil), api.ErrDead)
			}
		}
	}
	// One element that is wrong in two ways, and errors at other places.
	l := made(t, fresh(t, p), p)
	short := marked(64, 1)[1:]
	want(t, "Commit", l.Commit([]api.Write{{Block: -1, Data: short}}), api.ErrArg)
	want(t, "Commit", l.Commit([]api.Write{{Block: 60, Data: marked(64, 1)}, {Block: 20, Data: nil}}), api.ErrArg)
	want(t, "Commit", l.Commit([]api.Write{{Block: 20, Data: marked(64, 1)}, {Block: 20, Data: marked(64, 2)}, {Block: 9, Data: marked(64, 1)}}), api.ErrRange)
	want(t, "Commit", l.Commit([]api.Write{{Block: 9, Data: marked(64, 1)}, {Block: 9, Data: marked(64, 2)}}), api.ErrRange)
}

// TestAmounts: P9.3, for every size of block, and logs from the least to the greatest: lists whose Need is just Log, and one more; Most blocks, and one more; just Room, and one more.
func TestAmounts(t *testing.T) {
	for _, n := range [][4]int{{64, 600, 4, 4}, {64, 600, 4, 28}, {64, 600, 4, 29}, {64, 600, 4, 30}, {64, 600, 4, 56}, {64, 600, 4, 57}, {64, 4096, 1024, 512}, {128, 700, 2, 60}, {128, 700, 2, 61}, {128, 700, 2, 62}, {256, 400, 2, 124}, {256, 400, 2, 126}, {512, 2048, 2, 512}, {1024, 1024, 2, 508}, {1024, 1024, 2, 510}, {1024, 1024, 2, 512}, {2048, 512, 2, 200}, {4096, 256, 2, 100}} {
		p := planned(t, n[0], n[1], n[2], n[3])
		most := mostOf(p.Block)
		need := func(n int) int { return n + (n+most-1)/most }
		greatest := 0
		for need(greatest+1) <= p.Log && p.IBits+greatest+1 <= p.Blocks {
			greatest++
		}
		for _, n := range []int{1, 2, most - 1, most, most + 1, 2 * most, 2*most + 1, greatest - 1, greatest, greatest + 1, p.Blocks - p.IBits} {
			if n < 1 || p.IBits+n > p.Blocks {
				continue
			}
			q := newPair(t, p)
			list := writes(p, 1, row(p, n)...)
			wanted := api.OK
			if need(n) > p.Log {
				wanted = api.ErrLarge
			}
			want(t, "Commit", q.l.Commit(list), wanted)
			want(t, "commit", q.m.commit(list), wanted)
			q.same(t, n)
			if wanted != api.OK {
				continue
			}
			wantLog(t, q.l, p, api.Header{Seq: 1 + (n+most-1)/most, Used: need(n)}, list)
			// As many as there is room for, and one more.
			left := p.Log - need(n)
			for _, m := range []int{left - 1, left} {
				if m < 1 || m > most || p.IBits+m > p.Blocks || need(m) > p.Log {
					continue
				}
				second := writes(p, 2000, row(p, m)...)
				want(t, "Commit", q.l.Commit(second), api.OK)
				want(t, "commit", q.m.commit(second), api.OK)
				q.same(t, m)
			}
			got, wanted := q.run(call{name: "Open"})
			want(t, "Open", got, wanted)
			q.same(t, n)
		}
	}
}

// TestRing: P9.3 and P9.4, parts that begin at each number of the ring, with each number of blocks: over its end, the descriptor as its last block and the blocks from the first one on, and a ring that is full.
func TestRing(t *testing.T) {
	p := planned(t, 64, 60, 6, 8)
	for tail := range 8 {
		for n := 1; n <= 7; n++ {
			d := holding(t, p, api.Header{Seq: 40, Tail: tail})
			l := made(t, d, p)
			list := writes(p, 1, row(p, n)...)
			want(t, "Commit", l.Commit(list), api.OK)
			h := api.Header{Seq: 41, Tail: tail, Used: n + 1}
			wantLog(t, l, p, h, list)
			wantRead(t, d, 1, headerBytes(h, 64))
			ring := [][]byte{descBytes(40, row(p, n), 64)}
			for _, w := range list {
				ring = append(ring, w.Data)
			}
			for k := range 8 {
				at := p.LogAt + (tail+k)%8
				if k < len(ring) {
					wantRead(t, d, at, ring[k])
				} else {
					wantRead(t, d, at, before(p, at))
				}
			}
			wantLog(t, made(t, d, p), p, h, list)
			want(t, "Apply", l.Apply(), api.OK)
			h = api.Header{Seq: 41, Tail: (tail + n + 1) % 8}
			wantLog(t, l, p, h, nil)
			wantRead(t, d, 1, headerBytes(h, 64))
		}
	}
}

// TestPendingTwice: P9.4 and P9.5, blocks that are pending several times, in one log by several commits: the last one is pending, and is applied, once.
func TestPendingTwice(t *testing.T) {
	p := planned(t, 64, 60, 6, 12)
	d := fresh(t, p)
	l := made(t, d, p)
	a, b, c := writes(p, 1, 30, 20), writes(p, 10, 20, 30, 15), writes(p, 20, 30)
	for _, list := range [][]api.Write{a, b, c} {
		want(t, "Commit", l.Commit(list), api.OK)
	}
	pending := []api.Write{b[2], b[0], c[0]}
	h := api.Header{Seq: 4, Used: 9}
	wantLog(t, l, p, h, pending)
	l = made(t, d, p)
	wantLog(t, l, p, h, pending)
	from := d.Writes()
	want(t, "Apply", l.Apply(), api.OK)
	if d.Writes()-from != 6 {
		t.Error("Apply: writes and flushes:", d.Writes()-from)
	}
	for _, w := range pending {
		wantRead(t, d, w.Block, w.Data)
	}
	wantLog(t, l, p, api.Header{Seq: 4, Tail: 9}, nil)
	from = d.Writes()
	want(t, "Apply", l.Apply(), api.OK)
	want(t, "Commit", l.Commit(nil), api.OK)
	if d.Writes() != from {
		t.Error("nothing was to be done:", d.Writes()-from)
	}
}

// TestSeq: P9.5, Seq just below and at its greatest: a Commit that would pass it is ErrFull, ahead of applying, and nothing is written; one that just reaches it is done, and opened again; Apply goes on.
func TestSeq(t *testing.T) {
	p := planned(t, 64, 160, 4, 70)
	for left := range 4 {
		for n := range 64 {
			h := api.Header{Seq: math.MaxUint32 - left, Tail: 60}
			d := holding(t, p, h)
			l := made(t, d, p)
			kept := image(d)
			list := writes(p, 1, row(p, n)...)
			parts := (n + 26) / 27
			wanted := api.OK
			if parts > left {
				wanted = api.ErrFull
			}
			want(t, "Commit", l.Commit(list), wanted)
			if wanted == api.ErrFull || n == 0 {
				untouched(t, "Commit", d, 0, kept)
				wantLog(t, l, p, h, nil)
				continue
			}
			h.Seq, h.Used = h.Seq+parts, n+parts
			wantLog(t, l, p, h, list)
			wantLog(t, made(t, d, p), p, h, list)
		}
	}
	// A full log with Seq at its end: what is refused is not applied first.
	p = planned(t, 64, 60, 6, 8)
	h := api.Header{Seq: math.MaxUint32, Tail: 6, Used: 8}
	old := writes(p, 1, row(p, 7)...)
	ring := [][]byte{descBytes(math.MaxUint32-1, row(p, 7), 64)}
	for _, w := range old {
		ring = append(ring, w.Data)
	}
	d := holding(t, p, h, ring...)
	l := made(t, d, p)
	kept := image(d)
	want(t, "Commit", l.Commit(writes(p, 30, 20)), api.ErrFull)
	want(t, "Commit", l.Commit(writes(p, 30, row(p, 8)...)), api.ErrLarge)
	want(t, "Commit", l.Commit(nil), api.OK)
	untouched(t, "Commit", d, 0, kept)
	wantLog(t, l, p, h, old)
	want(t, "Apply", l.Apply(), api.OK)
	wantLog(t, l, p, api.Header{Seq: math.MaxUint32, Tail: 6}, nil)
	want(t, "Commit", l.Commit(writes(p, 30, 20)), api.ErrFull)
	for _, w := range old {
		wantRead(t, d, w.Block, w.Data)
	}
	wantLog(t, made(t, d, p), p, api.Header{Seq: math.MaxUint32, Tail: 6}, nil)
	// On a dead device, ErrFull is told ahead of anything that could meet it.
	die(t, d)
	want(t, "Commit", l.Commit(writes(p, 30, 20)), api.ErrFull)
	want(t, "Apply", l.Apply(), api.OK)
}

// TestSeqOfTheDead: P9.3, P9.5, P9.6 and R2, a log that has met ErrDead with Seq just below and at its greatest: lists that are too large, then those whose parts would pass it, are told as such, and all others, the empty one too, with ErrDead; behind a crash as well.
func TestSeqOfTheDead(t *testing.T) {
	p := planned(t, 64, 160, 4, 70)
	for left := range 4 {
		h := api.Header{Seq: math.MaxUint32 - left, Tail: 69, Used: 2}
		old := writes(p, 1, 90)
		d := holding(t, p, h, descBytes(h.Seq-1, []int{90}, 64), old[0].Data)
		l := made(t, d, p)
		kept, from := image(d), d.Writes()
		die(t, d)
		want(t, "Apply", l.Apply(), api.ErrDead)
		for _, crashed := range []bool{false, true} {
			if crashed {
				want(t, "Crash", d.Crash(nil), api.OK)
			}
			for n := range 72 {
				parts := (n + 26) / 27
				wanted := api.ErrDead
				if parts > left {
					wanted = api.ErrFull
				}
				if n+parts > 70 {
					wanted = api.ErrLarge
				}
				if got := l.Commit(writes(p, 5, row(p, n)...)); got != wanted {
					t.Errorf("%d Seq left, Commit of %d: %d, should be %d", left, n, got, wanted)
				}
			}
			want(t, "Apply", l.Apply(), api.ErrDead)
			wantLog(t, l, p, h, old)
		}
		untouched(t, "Commit", d, from, kept)
	}
}

// TestDeadBeneath: P9.2 to P9.4 and P9.6, calls on a log whose device died by another's doing: what asks for nothing is done, the first call that asks for something meets ErrDead, and from there on all are refused, whatever the device does: a list that is wrong for what is wrong with it, all else with ErrDead.
func TestDeadBeneath(t *testing.T) {
	p := planned(t, 64, 60, 6, 8)
	first := writes(p, 1, 20, 21)
	for _, meets := range []string{"Commit", "Apply", "Commit with Apply"} {
		d := fresh(t, p)
		l := made(t, d, p)
		want(t, "Commit", l.Commit(first), api.OK)
		h := api.Header{Seq: 2, Used: 3}
		kept, from := image(d), d.Writes()
		die(t, d)
		wantNoLog(t, "dead", d, p, api.ErrDead)
		want(t, "Commit of nothing", l.Commit(nil), api.OK)
		want(t, "Commit of what is wrong", l.Commit(writes(p, 1, 9)), api.ErrRange)
		wantLog(t, l, p, h, first)
		switch meets {
		case "Commit":
			want(t, meets, l.Commit(writes(p, 5, 22)), api.ErrDead)
		case "Apply":
			want(t, meets, l.Apply(), api.ErrDead)
		default:
			want(t, meets, l.Commit(writes(p, 5, 22, 23, 24, 25, 26)), api.ErrDead)
		}
		for _, crashed := range []bool{false, true} {
			if crashed {
				want(t, "Crash", d.Crash(nil), api.OK)
			}
			want(t, "Commit", l.Commit(writes(p, 5, 22)), api.ErrDead)
			want(t, "Commit of nothing", l.Commit(nil), api.ErrDead)
			want(t, "Commit of a nil block", l.Commit([]api.Write{{}}), api.ErrArg)
			want(t, "Commit of no block", l.Commit(writes(p, 1, p.IBits-1)), api.ErrRange)
			want(t, "Commit of a block twice", l.Commit(writes(p, 1, 20, 20)), api.ErrValue)
			want(t, "Commit of too much", l.Commit(writes(p, 1, row(p, 8)...)), api.ErrLarge)
			want(t, "Commit of just Log", l.Commit(writes(p, 1, row(p, 7)...)), api.ErrDead)
			want(t, "Apply", l.Apply(), api.ErrDead)
			wantLog(t, l, p, h, first)
		}
		untouched(t, meets, d, from, kept)
		wantLog(t, made(t, d, p), p, h, first)
	}
	// An empty log: Apply asks for nothing, till it has met the death.
	d := fresh(t, p)
	l := made(t, d, p)
	die(t, d)
	want(t, "Apply", l.Apply(), api.OK)
	want(t, "Commit", l.Commit(first), api.ErrDead)
	want(t, "Apply", l.Apply(), api.ErrDead)
	want(t, "Crash", d.Crash(nil), api.OK)
	want(t, "Apply", l.Apply(), api.ErrDead)
	wantLog(t, l, p, api.Header{Seq: 1}, nil)
	// A device that died and lives again before the log asks it for something: the log has met nothing.
	l = made(t, d, p)
	die(t, d)
	want(t, "Crash", d.Crash(nil), api.OK)
	want(t, "Commit", l.Commit(first), api.OK)
	wantLog(t, l, p, api.Header{Seq: 2, Used: 3}, first)
}

// TestCutOff: P9.3 to P9.6, Commit, Apply and the Apply within a Commit, cut off at every write and flush: the answer, what the log tells behind it, and that it does nothing more, also where the device lives again.
func TestCutOff(t *testing.T) {
	p := planned(t, 64, 60, 6, 8)
	first, again, more := writes(p, 1, 20, 21), writes(p, 5, 20), writes(p, 7, 22, 23, 24)
	old := api.Header{Seq: 3, Used: 5}
	pending := []api.Write{again[0], first[1]}
	for _, x := range []struct {
		name  string
		call  func(l *wal.Log) api.Errno
		steps int
		// how many steps the Apply within has, 0 without one.
		within int
		h      api.Header
		left   []api.Write
	}{
		{"Commit", func(l *wal.Log) api.Errno { return l.Commit(writes(p, 7, 22)) }, 5, 0, api.Header{Seq: 4, Used: 7}, []api.Write{again[0], first[1], more[0]}},
		{"Apply", (*wal.Log).Apply, 5, 0, api.Header{Seq: 3, Tail: 5}, nil},
		{"Commit with Apply", func(l *wal.Log) api.Errno { return l.Commit(more) }, 12, 5, api.Header{Seq: 4, Tail: 5, Used: 4}, more},
	} {
		for k := range x.steps + 1 {
			d := fresh(t, p)
			l := made(t, d, p)
			want(t, "Commit", l.Commit(first), api.OK)
			want(t, "Commit", l.Commit(again), api.OK)
			want(t, "Fuse", d.Fuse(k), api.OK)
			if k == x.steps {
				want(t, x.name, x.call(l), api.OK)
				wantLog(t, l, p, x.h, x.left)
				continue
			}
			want(t, x.name, x.call(l), api.ErrDead)
			h, left := old, pending
			if x.within > 0 && k >= x.within {
				h, left = api.Header{Seq: 3, Tail: 5}, nil
			}
			from := d.Writes()
			for _, crashed := range []bool{false, true} {
				wantLog(t, l, p, h, left)
				want(t, "Commit", l.Commit(first), api.ErrDead)
				want(t, "Apply", l.Apply(), api.ErrDead)
				want(t, "Commit", l.Commit(nil), api.ErrDead)
				if !crashed {
					want(t, "Crash", d.Crash([]int{1, 0, 1}), api.OK)
				}
			}
			if d.Writes() != from || len(d.Waiting()) != 0 {
				t.Errorf("%s, cut off at %d: the log wrote behind its end", x.name, k)
			}
			if t.Failed() {
				t.Fatal(x.name, k)
			}
		}
	}
}

// TestNil: what a nil log answers, and that one which was never opened panics nowhere.
func TestNil(t *testing.T) {
	p := planned(t, 64, 60, 6, 8)
	var l *wal.Log
	for _, list := range [][]api.Write{nil, {}, {{}}, writes(p, 1, 20), writes(p, 1, 9), writes(p, 1, 20, 20), writes(p, 1, row(p, 40)...)} {
		want(t, "Commit", l.Commit(list), api.ErrArg)
	}
	want(t, "Apply", l.Apply(), api.ErrArg)
	if len(l.Pending()) != 0 || l.Room() != 0 || l.Header() != (api.Header{}) {
		t.Error("a nil log tells:", l.Pending(), l.Room(), l.Header())
	}
	zero := new(wal.Log)
	want(t, "Apply", zero.Apply(), api.OK)
	want(t, "Commit", zero.Commit(nil), api.OK)
	want(t, "Commit", zero.Commit(writes(p, 1, 20)), api.ErrArg)
	want(t, "Commit", zero.Commit([]api.Write{{}}), api.ErrRange)
	if len(zero.Pending()) != 0 || zero.Room() != 0 || zero.Header() != (api.Header{}) {
		t.Error("a log that was never opened tells:", zero.Pending(), zero.Room(), zero.Header())
	}
}
