package wal_test

import (
	"bytes"
	"iter"
	"slices"
	"testing"

	"skerry/api"
	"skerry/device"
	"skerry/wal"
)

// story is what is done to an empty log: commits of lists of blocks, and, where a list is empty, an Apply.
type story struct {
	p    api.Plan
	acts [][]int
}

// list answers what act number i commits.
func (s story) list(i int) []api.Write {
	return writes(s.p, 200*i+1, s.acts[i]...)
}

// play does the acts on a device with that fuse, up to the first that is cut off: it answers how many commits were done, and whether one was cut off.
func (s story) play(t *testing.T, fuse int) (d *device.Device, done int, cutOff bool) {
	t.Helper()
	d = fresh(t, s.p)
	l := made(t, d, s.p)
	want(t, "Fuse", d.Fuse(fuse), api.OK)
	for i, blocks := range s.acts {
		if len(blocks) == 0 {
			if l.Apply() != api.OK {
				return d, done, false
			}
			continue
		}
		if l.Commit(s.list(i)) != api.OK {
			return d, done, true
		}
		done++
	}
	return d, done, false
}

// states answers what the blocks have behind each number of commits.
func (s story) states(t *testing.T) [][][]byte {
	now := image(fresh(t, s.p))[s.p.IBits:]
	list := [][][]byte{now}
	for i, blocks := range s.acts {
		if len(blocks) > 0 {
			now = laid(now, s.p, s.list(i))
			list = append(list, now)
		}
	}
	return list
}

// laid answers blocks, from IBits on, with those of the list in their places.
func laid(blocks [][]byte, p api.Plan, list []api.Write) [][]byte {
	blocks = slices.Clone(blocks)
	for _, w := range list {
		blocks[w.Block-p.IBits] = w.Data
	}
	return blocks
}

// cloned answers a device that is like d, of which nothing waits.
func cloned(t *testing.T, d *device.Device) *device.Device {
	t.Helper()
	c, e := device.New(d.Block(), d.Blocks())
	want(t, "device.New", e, api.OK)
	for b, data := range image(d) {
		want(t, "Load", c.Load(b, data), api.OK)
	}
	return c
}

// allPicks goes through all ways in which a crash can go.
func allPicks(waits []int) iter.Seq[[]int] {
	return func(yield func([]int) bool) {
		picks := make([]int, len(waits)/2)
		for {
			if !yield(slices.Clone(picks)) {
				return
			}
			at := 0
			for at < len(picks) && picks[at] == waits[2*at+1] {
				picks[at] = 0
				at++
			}
			if at == len(picks) {
				return
			}
			picks[at]++
		}
	}
}

// which answers the first of the states that the blocks are in, and -1 for none.
func which(states [][][]byte, blocks [][]byte) int {
	return slices.IndexFunc(states, func(s [][]byte) bool { return slices.EqualFunc(s, blocks, bytes.Equal) })
}

// recovered opens the log on a crashed device, and applies it: each block must be as one of the states says, all of one state. Applying is then cut off at every write and flush, with all picks, that often again. It answers which state it was.
func recovered(t *testing.T, d *device.Device, p api.Plan, states [][][]byte, often int) int {
	t.Helper()
	l := made(t, d, p)
	k := which(states, laid(image(d)[p.IBits:], p, l.Pending()))
	if k < 0 {
		t.Fatal("what is pending makes none of the states")
	}
	c := cloned(t, d)
	want(t, "Apply", made(t, c, p).Apply(), api.OK)
	want(t, "Crash", c.Crash(nil), api.OK)
	if which(states[k:k+1], image(c)[p.IBits:]) < 0 || made(t, c, p).Header().Used != 0 {
		t.Fatal("applying makes another state than what is pending")
	}
	// The picks of one cut are told by what waits there, so the way to it is gone again for each of them.
	cut := func(fuse int) (*device.Device, api.Errno) {
		c := cloned(t, d)
		l := made(t, c, p)
		want(t, "Fuse", c.Fuse(fuse), api.OK)
		return c, l.Apply()
	}
	for fuse := 0; often > 0; fuse++ {
		c, e := cut(fuse)
		if e == api.OK {
			break
		}
		for picks := range allPicks(c.Waiting()) {
			c, _ := cut(fuse)
			want(t, "Crash", c.Crash(picks), api.OK)
			recovered(t, c, p, states[k:k+1], often-1)
		}
	}
	return k
}

// wantRecovered lets a story be cut off at every write and flush, with all picks.
func wantRecovered(t *testing.T, s story, often int) {
	t.Helper()
	states := s.states(t)
	// How often nothing of the commit that was cut off was there, and how often all.
	var none, all int
	for fuse := 0; ; fuse++ {
		d, done, cutOff := s.play(t, fuse)
		if !d.Dead() {
			break
		}
		allowed := states[done : done+1]
		if cutOff {
			allowed = states[done : done+2]
		}
		for picks := range allPicks(d.Waiting()) {
			d, _, _ := s.play(t, fuse)
			want(t, "Crash", d.Crash(picks), api.OK)
			if recovered(t, d, s.p, allowed, often) == 1 {
				all++
			} else if cutOff {
				none++
			}
		}
	}
	if none == 0 || all == 0 {
		t.Error("commits that were cut off were there, and not:", all, none)
	}
}

// TestWhatFollowsSmall: what follows of P9.3 and P9.4, on small logs: wherever a Commit or an Apply is cut off, for every fuse and all picks, and applying again, twice.
func TestWhatFollowsSmall(t *testing.T) {
	least, more := planned(t, 64, 10, 2, 4), planned(t, 64, 14, 2, 7)
	for _, s := range []story{
		{least, [][]int{{9}}},
		{least, [][]int{{6, 7, 8}, {8, 9}, {9, 6}}},
		{least, [][]int{{7}, {7}, {7}, {8, 7}}},
		{least, [][]int{{9, 8, 7}, {}, {6}, {}, {6, 9}}},
		{more, [][]int{{12, 9}, {9, 10}, {11, 13, 9}}},
		{more, [][]int{{9}, {9, 13}, {}, {10, 9, 13}, {13}}},
	} {
		wantRecovered(t, s, 2)
	}
}

// TestWhatFollowsAll: what follows, of all stories of three acts on the least log, for every fuse and all picks.
func TestWhatFollowsAll(t *testing.T) {
	p := planned(t, 64, 10, 2, 4)
	acts := [][]int{{9}, {8, 6}, {6, 9, 7}, {}}
	for i := range 64 {
		if i != 63 {
			wantRecovered(t, story{p, [][]int{acts[i&3], acts[i>>2&3], acts[i>>4&3]}}, 0)
		}
	}
}

// TestWhatFollowsGreat: what follows, of greater logs and lists of several parts: one log lives through many crashes, with fuses and picks of all kinds, and applying is cut off again and again.
func TestWhatFollowsGreat(t *testing.T) {
	var none, all int
	for seed := range 120 {
		x := dice(4000 + seed)
		plans := plans(t)
		p := plans[seed%len(plans)]
		d := fresh(t, p)
		now := image(d)[p.IBits:]
		for life := range 12 {
			states, done, cutOff := lived(t, &x, d, p, now, life)
			crash(t, &x, d)
			k := which(states, laid(image(d)[p.IBits:], p, made(t, d, p).Pending()))
			if k < 0 || k > 0 && !cutOff {
				t.Fatalf("seed %d, life %d: behind %d commits, no state", seed, life, done)
			}
			now = states[k]
			all += k
			if cutOff {
				none += 1 - k
			}
			for range x.below(4) {
				want(t, "Fuse", d.Fuse(x.below(p.Log+4)), api.OK)
				made(t, d, p).Apply()
				crash(t, &x, d)
				if which(states[k:k+1], laid(image(d)[p.IBits:], p, made(t, d, p).Pending())) < 0 {
					t.Fatalf("seed %d, life %d: applying, cut off, made another state", seed, life)
				}
			}
			if x.below(2) == 0 {
				want(t, "Apply", made(t, d, p).Apply(), api.OK)
				if which(states[k:k+1], image(d)[p.IBits:]) < 0 {
					t.Fatalf("seed %d, life %d: applying made another state", seed, life)
				}
			}
		}
	}
	if none < 50 || all < 50 {
		t.Error("commits that were cut off were there, and not:", all, none)
	}
}

// lived lets a log be used till the device dies: it answers the states in which the blocks may be then, how many commits were done, and whether one was cut off.
func lived(t *testing.T, x *dice, d *device.Device, p api.Plan, now [][]byte, life int) (states [][][]byte, done int, cutOff bool) {
	t.Helper()
	l := made(t, d, p)
	want(t, "Fuse", d.Fuse(x.below(3*p.Log)), api.OK)
	for i := 0; ; i++ {
		if x.below(5) == 0 {
			if l.Apply() != api.OK {
				return [][][]byte{now}, done, false
			}
			continue
		}
		list := x.writes(p, 1+x.below(p.Log), 1000*life+100*(i%10)+1)
		e := l.Commit(list)
		switch e {
		case api.OK:
			now, done = laid(now, p, list), done+1
		case api.ErrDead:
			return [][][]byte{now, laid(now, p, list)}, done, true
		case api.ErrLarge:
		default:
			t.Fatal("Commit:", e)
		}
	}
}

// crash lets any of the writes that wait arrive.
func crash(t *testing.T, x *dice, d *device.Device) {
	t.Helper()
	waits := d.Waiting()
	how := x.below(4)
	var picks []int
	for i := 1; i < len(waits); i += 2 {
		pick := x.below(waits[i] + 1)
		switch how {
		case 0:
			pick = waits[i]
		case 1:
			pick = 0
		}
		picks = append(picks, pick)
	}
	want(t, "Crash", d.Crash(picks), api.OK)
}

// TestFormatCutOff: P9.1, Format that is cut off leaves the log that was there, or the new one.
func TestFormatCutOff(t *testing.T) {
	p := planned(t, 64, 60, 6, 8)
	for fuse := range 2 {
		for pick := range 2 {
			d := holding(t, p, twoParts().h, twoParts().ring...)
			want(t, "Fuse", d.Fuse(fuse), api.OK)
			want(t, "Format", wal.Format(d, p), api.ErrDead)
			want(t, "Format", wal.Format(d, p), api.ErrDead)
			wantNoLog(t, "dead", d, p, api.ErrDead)
			want(t, "Crash", d.Crash([]int{pick}), api.OK)
			if fuse == 1 && pick == 1 {
				wantLog(t, made(t, d, p), p, api.Header{Seq: 1}, nil)
			} else {
				wantLog(t, made(t, d, p), p, twoParts().h, twoPending())
			}
			want(t, "Format", wal.Format(d, p), api.OK)
			wantLog(t, made(t, d, p), p, api.Header{Seq: 1}, nil)
		}
	}
}
