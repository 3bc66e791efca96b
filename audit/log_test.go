package audit_test

import (
	"bytes"
	"fmt"
	"slices"
	"testing"

	"skerry/api"
	"skerry/audit"
	"skerry/codec"
)

// piece is one part of a log: its number, what its list names, and what each block is filled with.
type piece struct {
	seq    int
	blocks []int
	fills  []byte
}

// withParts answers an image whose log has these parts, from tail on, and this header beside.
func withParts(t *testing.T, p api.Plan, base [][]byte, h api.Header, parts ...piece) [][]byte {
	t.Helper()
	image := clone(base)
	at := h.Tail
	for _, part := range parts {
		desc, e := codec.Desc(part.seq, part.blocks, p.Block)
		want(t, "Desc", e, api.OK)
		image[p.LogAt+at%p.Log] = desc
		for k, c := range part.fills {
			image[p.LogAt+(at+1+k)%p.Log] = bytes.Repeat([]byte{c}, p.Block)
		}
		at += 1 + len(part.fills)
	}
	header(t, image, h)
	return image
}

// filled answers an image like another one, in which a block has but one byte.
func filled(image [][]byte, b int, c byte) [][]byte {
	out := clone(image)
	out[b] = bytes.Repeat([]byte{c}, len(image[b]))
	return out
}

// TestReplay: P17.1, each pending block stands in its place, the last of several; the log and its header are as they were.
func TestReplay(t *testing.T) {
	for _, p := range plans(t) {
		base := rich(t, p).image()
		last := p.Blocks - 1
		for _, tail := range []int{0, 1, p.Log - 1, p.Log - 2, p.Log / 2} {
			one := withParts(t, p, base, api.Header{Seq: 8, Tail: tail, Used: 3}, piece{7, []int{last, p.IBits}, []byte{5, 6}})
			wantReplay(t, one, filled(filled(one, last, 5), p.IBits, 6))
			wantUnsound(t, one)
			two := withParts(t, p, base, api.Header{Seq: 9, Tail: tail, Used: 6}, piece{7, []int{last, p.Data}, []byte{1, 2}}, piece{8, []int{p.Data, p.BBits}, []byte{3, 4}})
			wantReplay(t, two, filled(filled(filled(two, last, 1), p.Data, 3), p.BBits, 4))
			wantUnsound(t, two)
		}
		none := withParts(t, p, base, api.Header{Seq: 77, Tail: p.Log - 1})
		wantReplay(t, none, none)
		if agree(t, none) != "sound" {
			t.Error("an image with an empty log is not sound")
		}
	}
}

// TestReplayFull: P17.1, a log all of whose blocks are in use, wherever it begins; and one that has as few as a log may have.
func TestReplayFull(t *testing.T) {
	for _, n := range []int{4, 5, 28, 29, 30, 60} {
		p := planned(t, 64, 300, 20, n)
		base := rich(t, p).image()
		for tail := range n {
			var parts []piece
			for left, seq := n, 3; left > 0; seq++ {
				// No part of one block: the last one takes what would be left.
				size := min(27, left-1)
				if left-1-size == 1 {
					size--
				}
				part := piece{seq: seq}
				for k := range size {
					part.blocks = append(part.blocks, p.Blocks-1-k)
					part.fills = append(part.fills, byte(16*seq+k))
				}
				parts, left = append(parts, part), left-1-size
			}
			image := withParts(t, p, base, api.Header{Seq: 3 + len(parts), Tail: tail, Used: n}, parts...)
			wanted := clone(image)
			for _, part := range parts {
				for k, b := range part.blocks {
					wanted = filled(wanted, b, part.fills[k])
				}
			}
			wantReplay(t, image, wanted)
			if got := agree(t, image); got != "sound" {
				t.Errorf("log of %d from %d on: %s", n, tail, got)
			}
		}
	}
}

// TestReplayCorrupt: P17.1, each way in which chapter 9 says that a log is not sound.
func TestReplayCorrupt(t *testing.T) {
	for _, p := range plans(t) {
		base := rich(t, p).image()
		d := p.Data
		good := piece{7, []int{d, d + 1}, []byte{1, 2}}
		next := piece{8, []int{d + 2}, []byte{3}}
		build := func(h api.Header, parts ...piece) [][]byte {
			t.Helper()
			return withParts(t, p, base, h, parts...)
		}
		for name, image := range map[string][][]byte{
			"Tail is Log":                 build(api.Header{Seq: 1, Tail: p.Log}),
			"Tail is far above Log":       build(api.Header{Seq: 1, Tail: 65535}),
			"Used is above Log":           build(api.Header{Seq: 9, Used: p.Log + 1}, good, next),
			"Used is far above Log":       build(api.Header{Seq: 9, Used: 65535}, good, next),
			"Seq is that of the last":     build(api.Header{Seq: 7, Used: 3}, good),
			"Seq is too great":            build(api.Header{Seq: 9, Used: 3}, good),
			"Seq is 0":                    build(api.Header{Seq: 0, Used: 3}, good),
			"two parts, Seq too small":    build(api.Header{Seq: 8, Used: 5}, good, next),
			"numbers that stay":           build(api.Header{Seq: 8, Used: 5}, good, piece{7, []int{d + 2}, []byte{3}}),
			"numbers that rise by two":    build(api.Header{Seq: 10, Used: 5}, good, piece{9, []int{d + 2}, []byte{3}}),
			"numbers that fall":           build(api.Header{Seq: 7, Used: 5}, good, piece{6, []int{d + 2}, []byte{3}}),
			"the first number is wrong":   build(api.Header{Seq: 9, Used: 5}, piece{6, good.blocks, good.fills}, next),
			"a list without numbers":      build(api.Header{Seq: 8, Used: 1}, piece{7, nil, nil}),
			"one of two has none":         build(api.Header{Seq: 9, Used: 4}, good, piece{8, nil, nil}),
			"a block ahead of IBits":      build(api.Header{Seq: 8, Used: 3}, piece{7, []int{d, p.IBits - 1}, []byte{1, 2}}),
			"the superblock":              build(api.Header{Seq: 8, Used: 2}, piece{7, []int{0}, []byte{1}}),
			"the header":                  build(api.Header{Seq: 8, Used: 2}, piece{7, []int{1}, []byte{1}}),
			"the log":                     build(api.Header{Seq: 8, Used: 2}, piece{7, []int{p.LogAt}, []byte{1}}),
			"a block that is Blocks":      build(api.Header{Seq: 8, Used: 3}, piece{7, []int{p.Blocks, d}, []byte{1, 2}}),
			"a block that is 65535":       build(api.Header{Seq: 8, Used: 3}, piece{7, []int{d, 65535}, []byte{1, 2}}),
			"a block twice in a list":     build(api.Header{Seq: 8, Used: 3}, piece{7, []int{d, d}, []byte{1, 2}}),
			"twice, not side by side":     build(api.Header{Seq: 8, Used: 4}, piece{7, []int{d, d + 1, d}, []byte{1, 2, 3}}),
			"Used cuts a list":            build(api.Header{Seq: 8, Used: 2}, good),
			"Used cuts it to nothing":     build(api.Header{Seq: 8, Used: 1}, good),
			"Used cuts the second":        build(api.Header{Seq: 9, Used: 4}, good, next),
			"rubble behind the parts":     build(api.Header{Seq: 9, Used: 6}, good, next),
			"a descriptor that is rubble": build(api.Header{Seq: 9, Used: 5}),
		} {
			want(t, name, audit.Check(image), api.ErrCorrupt)
			wantLost(t, image)
			if agree(t, image) != "lost" {
				t.Errorf("%s: the model takes it for a log", name)
			}
		}
		fine := build(api.Header{Seq: 9, Used: 5}, good, next)
		wantReplay(t, fine, filled(filled(filled(fine, d, 1), d+1, 2), d+2, 3))
	}
}

// TestReplayTurned: P17.1, a header of which any bit is turned is not read, nor is a descriptor; a block behind one may have any bytes.
func TestReplayTurned(t *testing.T) {
	p := planned(t, 64, 300, 20, 60)
	image := withParts(t, p, rich(t, p).image(), api.Header{Seq: 9, Tail: 58, Used: 5}, piece{7, []int{p.Data, p.Data + 1}, []byte{1, 2}}, piece{8, []int{p.Data + 2}, []byte{3}})
	wantReplay(t, image, filled(filled(filled(image, p.Data, 1), p.Data+1, 2), p.Data+2, 3))
	for b, lost := range map[int]bool{1: true, p.LogAt + 58: true, p.LogAt + 59: false, p.LogAt: false, p.LogAt + 1: true, p.LogAt + 2: false, p.LogAt + 3: false, p.LogAt + 57: false} {
		for bit := range 8 * p.Block {
			image[b][bit/8] ^= 1 << (bit % 8)
			if got := agree(t, image); got == "lost" != lost {
				t.Errorf("block %d, bit %d: %s", b, bit, got)
			}
			image[b][bit/8] ^= 1 << (bit % 8)
		}
	}
}

// TestReplayAgain: P17.1, the replayed image with an emptied log is answered as it is; so is what a log makes that is replayed once more.
func TestReplayAgain(t *testing.T) {
	for _, p := range plans(t) {
		sound := rich(t, p).image()
		s := rich(t, p)
		s.born(8, "new", 9, api.KindDir)
		s.born(9, "newer", 10, api.KindFile)
		s.write(10, 0, bytes.Repeat([]byte("new"), p.Block))
		other := s.image()
		for _, image := range [][][]byte{moved(t, p, sound, other), moved(t, p, other, sound), sound, other} {
			once, e := audit.Replay(image)
			want(t, "Replay", e, api.OK)
			if !same(once[:p.IBits], image[:p.IBits]) {
				t.Error("Replay has changed the superblock, the header or the log")
			}
			wantReplay(t, once, once)
			kept := ask(image)
			h, _ := codec.Unheader(once[1])
			header(t, once, api.Header{Seq: h.Seq, Tail: (h.Tail + h.Used) % p.Log})
			wantReplay(t, once, once)
			now := ask(once)
			if !sameNodes(now.nodes, kept.nodes) || now.used != kept.used || now.errors != kept.errors || now.errors != [4]api.Errno{} {
				t.Error("a replayed image is another tree than it was")
			}
		}
	}
}

// TestLogged: P17.1 to P17.3, what is told of an image is told of the replayed one: whatever the log makes sound is sound, whatever it spoils is not; both bitmaps, the table, pointers and directories may be pending.
func TestLogged(t *testing.T) {
	for _, p := range plans(t) {
		sound := rich(t, p).image()
		m, _ := newModel(sound)
		x := dice(p.Block)
		for b := p.IBits; b < p.Blocks; b++ {
			if b > p.Data+60 && b%17 != 0 {
				continue
			}
			spoilt := filled(sound, b, byte(x.below(256)))
			if b >= p.Table && b < p.Data {
				spoilt = filled(sound, b, 3)
			}
			wantSound(t, moved(t, p, spoilt, sound), m.nodes(), m.amount())
			agree(t, moved(t, p, sound, spoilt))
			if b < p.Data {
				wantUnsound(t, moved(t, p, sound, spoilt))
			}
		}
	}
}

// TestSeqs: P17.1, numbers of a log up to the greatest ones.
func TestSeqs(t *testing.T) {
	p := planned(t, 64, 300, 20, 60)
	base := rich(t, p).image()
	for _, seq := range []int{0, 1, 255, 256, 65535, 65536, 1<<31 - 1, 1 << 31, 1<<32 - 1} {
		image := withParts(t, p, base, api.Header{Seq: seq, Tail: 5})
		wantReplay(t, image, image)
		for _, first := range []int{seq - 1, seq, seq - 2} {
			if first < 0 {
				continue
			}
			image := withParts(t, p, base, api.Header{Seq: seq, Tail: 5, Used: 2}, piece{first, []int{p.Blocks - 1}, []byte{9}})
			if first != seq-1 {
				wantLost(t, image)
				continue
			}
			wantReplay(t, image, filled(image, p.Blocks-1, 9))
		}
	}
}

// TestAnyLog: R1 and P17.1, logs of chance: parts that may be wrong in any way.
func TestAnyLog(t *testing.T) {
	x := dice(21)
	count := map[string]int{}
	p := planned(t, 64, 120, 20, 12)
	s := newSheet(t, p)
	s.born(1, "f", 2, api.KindFile)
	s.write(2, 0, x.bytes(300))
	base := s.image()
	for range 4000 {
		h := api.Header{Seq: 1 + x.below(4), Tail: x.below(12)}
		var parts []piece
		for seq := h.Seq; x.below(4) > 0; seq++ {
			part := piece{seq: seq}
			for k := range 1 + x.below(4) {
				part.blocks = append(part.blocks, p.Blocks-1-k)
				part.fills = append(part.fills, byte(x.below(256)))
			}
			if h.Used+1+len(part.fills) > 12 {
				break
			}
			h.Used += 1 + len(part.fills)
			h.Seq = seq + 1
			parts = append(parts, part)
		}
		switch wrong := x.below(8); {
		case wrong == 0:
			h.Seq += x.below(3) - 1
		case wrong == 1:
			h.Used = max(0, h.Used+x.below(5)-2)
		case wrong == 2:
			h.Tail = (h.Tail + x.below(3)) % 13
		case wrong == 3 && len(parts) > 0:
			list := parts[x.below(len(parts))].blocks
			list[x.below(len(list))] = []int{0, p.IBits - 1, p.IBits, p.Blocks, p.Blocks - 1, 65535}[x.below(6)]
		case wrong == 4 && len(parts) > 0:
			parts[x.below(len(parts))].seq += x.below(2)
		}
		count[agree(t, withParts(t, p, base, h, parts...))]++
	}
	if list := []int{count["sound"], count["unsound"], count["lost"]}; slices.Min(list) < 20 {
		t.Error(fmt.Sprint("images of each kind: ", count))
	}
}
