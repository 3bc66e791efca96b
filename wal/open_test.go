package wal_test

import (
	"bytes"
	"math"
	"slices"
	"testing"

	"skerry/api"
	"skerry/device"
	"skerry/wal"
)

// scene is a log as it stands on a device: a header, and the blocks from its Tail on.
type scene struct {
	h    api.Header
	ring [][]byte
}

// twoParts answers a sound log of two parts, the first one up to the ring's end, the second one from its beginning on; block 20 is in both.
func twoParts() scene {
	return scene{
		api.Header{Seq: 9, Tail: 5, Used: 6},
		[][]byte{descBytes(7, []int{20, 21}, 64), marked(64, 1), marked(64, 2), descBytes(8, []int{59, 20}, 64), marked(64, 3), marked(64, 4)},
	}
}

// twoPending is what is pending in it.
func twoPending() []api.Write {
	return []api.Write{{Block: 20, Data: marked(64, 4)}, {Block: 21, Data: marked(64, 2)}, {Block: 59, Data: marked(64, 3)}}
}

// wantScene opens what a scene says: sound or not, nothing may be written.
func wantScene(t *testing.T, name string, p api.Plan, s scene, sound bool) {
	t.Helper()
	d := holding(t, p, s.h, s.ring...)
	wantDevice(t, name, d, p, sound)
}

func wantDevice(t *testing.T, name string, d *device.Device, p api.Plan, sound bool) {
	t.Helper()
	kept := image(d)
	l, e := wal.Open(d, p)
	m, f := opened(d, p)
	if sound != (f == api.OK) {
		t.Errorf("%s: the model answers %d", name, f)
		return
	}
	switch {
	case !sound && (l != nil || e != api.ErrCorrupt):
		t.Errorf("Open, %s: %v, %d, should be ErrCorrupt", name, l, e)
	case sound && (l == nil || e != api.OK):
		t.Errorf("Open, %s: %v, %d, should be a log", name, l, e)
	case sound:
		wantLog(t, l, p, m.h, m.pending())
	}
	untouched(t, name, d, 0, kept)
}

// TestUnsound: P9.2, headers and parts that are not sound, each by one thing alone, beside those that just are: ErrCorrupt, and nothing is written.
func TestUnsound(t *testing.T) {
	p := planned(t, 64, 60, 6, 8)
	wantScene(t, "two parts", p, twoParts(), true)
	wantLog(t, made(t, holding(t, p, twoParts().h, twoParts().ring...), p), p, twoParts().h, twoPending())
	for _, x := range []struct {
		name   string
		change func(s *scene)
		sound  bool
	}{
		{"Tail at Log", func(s *scene) { s.h.Tail = 8 }, false},
		{"Tail at Log, nothing in use", func(s *scene) { s.h = api.Header{Seq: 9, Tail: 8} }, false},
		{"Tail below Log, nothing in use", func(s *scene) { s.h = api.Header{Seq: 9, Tail: 7} }, true},
		{"Tail of two bytes", func(s *scene) { s.h = api.Header{Seq: 9, Tail: 65535} }, false},
		{"Used above Log", func(s *scene) { s.h.Used = 9 }, false},
		{"Used of two bytes", func(s *scene) { s.h.Used = 65535 }, false},
		{"Used one less", func(s *scene) { s.h.Used = 5 }, false},
		{"Used one more", func(s *scene) { s.h.Used = 7 }, false},
		{"Used for the first part, Seq of the second", func(s *scene) { s.h.Used = 3 }, false},
		{"Used for the first part, its Seq", func(s *scene) { s.h.Used, s.h.Seq = 3, 8 }, true},
		{"Used in the first part's midst", func(s *scene) { s.h.Used, s.h.Seq = 2, 8 }, false},
		{"Used for a descriptor alone", func(s *scene) { s.h.Used, s.h.Seq = 1, 8 }, false},
		{"Used for a second descriptor alone", func(s *scene) { s.h.Used = 4 }, false},
		{"nothing in use", func(s *scene) { s.h.Used = 0 }, true},
		{"nothing in use, Seq 0", func(s *scene) { s.h.Used, s.h.Seq = 0, 0 }, true},
		{"Seq 0", func(s *scene) { s.h.Seq = 0 }, false},
		{"Seq one less", func(s *scene) { s.h.Seq = 8 }, false},
		{"Seq one more", func(s *scene) { s.h.Seq = 10 }, false},
		{"Seq of both one more", func(s *scene) {
			s.ring[0], s.ring[3] = descBytes(8, []int{20, 21}, 64), descBytes(9, []int{59, 20}, 64)
			s.h.Seq = 10
		}, true},
		{"Seq of both one more, not of the header", func(s *scene) {
			s.ring[0], s.ring[3] = descBytes(8, []int{20, 21}, 64), descBytes(9, []int{59, 20}, 64)
		}, false},
		{"the first one's seq one less", func(s *scene) { s.ring[0] = descBytes(6, []int{20, 21}, 64) }, false},
		{"the first one's seq one more", func(s *scene) { s.ring[0] = descBytes(8, []int{20, 21}, 64) }, false},
		{"seqs turned", func(s *scene) {
			s.ring[0], s.ring[3] = descBytes(9, []int{20, 21}, 64), descBytes(8, []int{59, 20}, 64)
		}, false},
		{"seqs from 0 on", func(s *scene) {
			s.ring[0], s.ring[3] = descBytes(0, []int{20, 21}, 64), descBytes(1, []int{59, 20}, 64)
			s.h.Seq = 2
		}, true},
		{"seqs over the end of four bytes", func(s *scene) {
			s.ring[0], s.ring[3] = descBytes(math.MaxUint32, []int{20, 21}, 64), descBytes(0, []int{59, 20}, 64)
			s.h.Seq = 1
		}, false},
		{"the greatest seqs", func(s *scene) {
			s.ring[0], s.ring[3] = descBytes(math.MaxUint32-2, []int{20, 21}, 64), descBytes(math.MaxUint32-1, []int{59, 20}, 64)
			s.h.Seq = math.MaxUint32
		}, true},
		{"a seq that no part has", func(s *scene) {
			s.ring[0], s.ring[3] = descBytes(math.MaxUint32-1, []int{20, 21}, 64), descBytes(math.MaxUint32, []int{59, 20}, 64)
			s.h.Seq = math.MaxUint32
		}, false},
		{"a list without numbers", func(s *scene) { s.ring[3] = descBytes(8, nil, 64) }, false},
		{"a list without numbers that fills Used", func(s *scene) { s.ring[3], s.h.Used = descBytes(8, nil, 64), 4 }, false},
		{"a first list without numbers", func(s *scene) { s.ring[0], s.h.Used, s.h.Seq = descBytes(7, nil, 64), 1, 8 }, false},
		{"a number twice", func(s *scene) { s.ring[3] = descBytes(8, []int{59, 59}, 64) }, false},
		{"a number in both parts", func(s *scene) { s.ring[3] = descBytes(8, []int{20, 21}, 64) }, true},
		{"a number below IBits", func(s *scene) { s.ring[3] = descBytes(8, []int{59, 9}, 64) }, false},
		{"IBits", func(s *scene) { s.ring[3] = descBytes(8, []int{59, 10}, 64) }, true},
		{"the superblock", func(s *scene) { s.ring[0] = descBytes(7, []int{0, 21}, 64) }, false},
		{"the header", func(s *scene) { s.ring[0] = descBytes(7, []int{1, 21}, 64) }, false},
		{"the log", func(s *scene) { s.ring[0] = descBytes(7, []int{2, 21}, 64) }, false},
		{"a number at Blocks", func(s *scene) { s.ring[3] = descBytes(8, []int{60, 20}, 64) }, false},
		{"a number of two bytes", func(s *scene) { s.ring[3] = descBytes(8, []int{65535, 20}, 64) }, false},
		{"fewer numbers", func(s *scene) { s.ring[3] = descBytes(8, []int{59}, 64) }, false},
		{"fewer numbers, and a part behind them", func(s *scene) {
			s.ring[3], s.ring[5] = descBytes(8, []int{59}, 64), descBytes(9, []int{20}, 64)
		}, false},
		{"more numbers", func(s *scene) { s.ring[3] = descBytes(8, []int{59, 20, 22}, 64) }, false},
		{"more numbers than Log", func(s *scene) { s.ring[3] = descBytes(8, row(planned(t, 64, 60, 6, 8), 20), 64) }, false},
		{"no descriptor at Tail", func(s *scene) { s.ring[0] = marked(64, 9) }, false},
		{"no second descriptor", func(s *scene) { s.ring[3] = make([]byte, 64) }, false},
		{"other data", func(s *scene) { s.ring[1], s.ring[5] = marked(64, 9), make([]byte, 64) }, true},
		{"a header in place of data", func(s *scene) { s.ring[1] = headerBytes(api.Header{Seq: 1}, 64) }, true},
	} {
		s := twoParts()
		x.change(&s)
		wantScene(t, x.name, p, s, x.sound)
	}
}

// TestMostNumbers: P9.2, lists of just Most numbers, and of one more, for every size of block of which a log has room for so many.
func TestMostNumbers(t *testing.T) {
	for _, n := range [][4]int{{64, 100, 2, 40}, {128, 200, 2, 70}, {256, 400, 2, 130}, {512, 900, 2, 260}, {1024, 1024, 2, 510}} {
		p := planned(t, n[0], n[1], n[2], n[3])
		for _, n := range []int{mostOf(p.Block) - 1, mostOf(p.Block), mostOf(p.Block) + 1} {
			s := scene{api.Header{Seq: 2, Tail: 3, Used: 1 + n}, [][]byte{descBytes(1, row(p, n), p.Block)}}
			for i := range n {
				s.ring = append(s.ring, marked(p.Block, i))
			}
			wantScene(t, "a list of about Most", p, s, n <= mostOf(p.Block))
		}
	}
}

// TestTurnedBits: P9.2, every bit of the header and of the descriptors that is turned is found; those of other blocks are no matter but where they are pending.
func TestTurnedBits(t *testing.T) {
	p := planned(t, 64, 60, 6, 8)
	d := holding(t, p, twoParts().h, twoParts().ring...)
	kept := image(d)
	for _, b := range []int{0, 1, 2, 3, 4, 5, 6, 7, 8, 9, 10, 20} {
		for i := range 8 * 64 {
			data := bytes.Clone(kept[b])
			data[i/8] ^= 1 << (i % 8)
			want(t, "Load", d.Load(b, data), api.OK)
			l, e := wal.Open(d, p)
			if b == 1 || b == p.LogAt+5 || b == p.LogAt {
				if l != nil || e != api.ErrCorrupt {
					t.Errorf("bit %d of block %d: %v, %d, should be ErrCorrupt", i, b, l, e)
				}
				continue
			}
			if e != api.OK {
				t.Fatalf("bit %d of block %d: %d", i, b, e)
			}
			pending := twoPending()
			for j, at := range []int{p.LogAt + 2, p.LogAt + 7, p.LogAt + 1} {
				if b == at {
					pending[j].Data = data
				}
			}
			wantLog(t, l, p, twoParts().h, pending)
		}
		want(t, "Load", d.Load(b, kept[b]), api.OK)
	}
}

// TestAllHeaders: P9.2 and R1, all small headers, and some great ones, on rings of several parts, against the model.
func TestAllHeaders(t *testing.T) {
	p := planned(t, 64, 20, 2, 5)
	rings := [][][]byte{
		{descBytes(3, []int{10}, 64), marked(64, 1), descBytes(4, []int{11, 12}, 64), marked(64, 2), marked(64, 3)},
		{descBytes(3, []int{10}, 64), descBytes(4, []int{12}, 64), descBytes(5, []int{12}, 64), descBytes(6, []int{12}, 64), descBytes(7, []int{10}, 64)},
		{descBytes(3, []int{19, 7, 8}, 64), marked(64, 1), marked(64, 2), descBytes(1, []int{10, 11, 12, 13}, 64), descBytes(2, []int{10}, 64)},
		{make([]byte, 64), descBytes(0, nil, 64), descBytes(5, []int{9}, 64), descBytes(3, []int{9, 8}, 64), descBytes(4, []int{8, 8}, 64)},
	}
	sound := 0
	for _, ring := range rings {
		d := holding(t, p, api.Header{}, ring...)
		for _, seq := range []int{0, 1, 2, 3, 4, 5, 6, 7, 8, 9, math.MaxUint32 - 1, math.MaxUint32} {
			for _, tail := range []int{0, 1, 2, 3, 4, 5, 6, 10, 65535} {
				for _, used := range []int{0, 1, 2, 3, 4, 5, 6, 7, 10, 65535} {
					h := api.Header{Seq: seq, Tail: tail, Used: used}
					want(t, "Load", d.Load(1, headerBytes(h, 64)), api.OK)
					m, f := opened(d, p)
					l, e := wal.Open(d, p)
					if e != f || (l != nil) != (f == api.OK) {
						t.Fatalf("header %v: %d, should be %d", h, e, f)
					}
					if f == api.OK {
						wantLog(t, l, p, h, m.pending())
						sound += min(used, 1)
					}
				}
			}
		}
		if d.Writes() != 0 {
			t.Error("Open wrote:", d.Writes())
		}
	}
	if sound < 10 {
		t.Error("only so many were sound:", sound)
	}
}

// TestAnyBytes: P9.2 and R1, devices whose log is put together from all kinds of blocks: something is told, as the model does, and the log that stands there can be used.
func TestAnyBytes(t *testing.T) {
	p := planned(t, 64, 24, 2, 6)
	for seed := range 4000 {
		x := dice(seed)
		d, twin := stood(t, p), stood(t, p)
		load := func(b int, data []byte) {
			want(t, "Load", d.Load(b, data), api.OK)
			want(t, "Load", twin.Load(b, data), api.OK)
		}
		load(1, headerBytes(api.Header{Seq: 3 + x.below(3), Tail: x.below(7), Used: x.below(8)}, 64))
		for k := range p.Log {
			switch x.below(4) {
			case 0:
				load(p.LogAt+k, marked(64, x.below(50000)))
			default:
				list := make([]int, x.below(4))
				for i := range list {
					list[i] = p.IBits - 1 + x.below(p.Blocks-p.IBits+1)
				}
				load(p.LogAt+k, descBytes(2+x.below(3), list, 64))
			}
		}
		m, f := opened(twin, p)
		l, e := wal.Open(d, p)
		if e != f || (l != nil) != (f == api.OK) {
			t.Fatalf("seed %d: %d, should be %d", seed, e, f)
		}
		if f != api.OK {
			continue
		}
		q := &pair{d, l, m}
		q.same(t, seed)
		for i := range 6 {
			c := x.nextCall(p, 100*i)
			if got, wanted := q.run(c); got != wanted {
				t.Fatalf("seed %d, %s: %d, should be %d", seed, c.name, got, wanted)
			}
			q.same(t, seed)
		}
	}
}

// TestOpenWaiting: P9.2, what waits is read as what has arrived, and waits on.
func TestOpenWaiting(t *testing.T) {
	p := planned(t, 64, 60, 6, 8)
	d := stood(t, p)
	s := twoParts()
	want(t, "Write", d.Write(1, headerBytes(s.h, 64)), api.OK)
	for k, data := range s.ring {
		want(t, "Write", d.Write(p.LogAt+(5+k)%8, data), api.OK)
	}
	waits, n := d.Waiting(), d.Writes()
	wantLog(t, made(t, d, p), p, s.h, twoPending())
	if !slices.Equal(d.Waiting(), waits) || d.Writes() != n {
		t.Error("Open wrote:", d.Waiting(), d.Writes())
	}
	// A fuse that is burnt is no matter as long as nothing is written.
	want(t, "Fuse", d.Fuse(0), api.OK)
	l := made(t, d, p)
	if d.Dead() {
		t.Error("Open found the device dead")
	}
	want(t, "Apply", l.Apply(), api.ErrDead)
	wantLog(t, l, p, s.h, twoPending())
}
