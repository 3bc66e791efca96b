package group_test

import (
	"bytes"
	"fmt"
	"slices"
	"testing"

	"skerry/api"
	"skerry/device"
	"skerry/group"
	"skerry/wal"
)

// state is what stands in each block of a device, and who uses it: w, if its bytes go through the log, d, if they go past it, 0, if nobody does.
type state struct {
	blocks [][]byte
	roles  []byte
}

func (s state) clone() state {
	return state{slices.Clone(s.blocks), slices.Clone(s.roles)}
}

// tale is a row of operations as a file system makes them: no block is used anew while it is kept, or by two, and none goes both ways while it is used.
type tale struct {
	*world
	x dice
	// now is what those that have ended have left, own what the open one has in mind.
	now, own state
	// what the last Commit that answered OK left, and each operation that ended behind it.
	since []state
	// once are blocks that were ever written by Data; values are, of those in use at the last Commit, what may stand in them: what stood there then, and all that came behind it.
	once   map[int]int
	values map[int][][]byte
	mark   int
	// told is all that was answered, for one who asks whether it is the same elsewhere.
	told []string
}

// newTale answers one on a new device.
func newTale(t *testing.T, p api.Plan, seed, capacity int, picks ...int) *tale {
	t.Helper()
	return goneOn(t, fresh(t, p), p, imageOf(fresh(t, p)), make([]byte, p.Blocks), seed, capacity, picks...)
}

// goneOn answers one on a device of which that is known.
func goneOn(t *testing.T, d *device.Device, p api.Plan, blocks [][]byte, roles []byte, seed, capacity int, picks ...int) *tale {
	t.Helper()
	y := &tale{world: mounted(t, d, p, capacity, picks...), x: dice(seed), now: state{blocks, roles}, once: map[int]int{}}
	for b := p.IBits; b < p.Data; b++ {
		y.now.roles[b] = 'w'
	}
	y.durable()
	return y
}

// imageOf answers all that is read of a device.
func imageOf(d *device.Device) [][]byte {
	var list [][]byte
	for b := range d.Blocks() {
		data, _ := d.Read(b)
		list = append(list, data)
	}
	return list
}

// durable notes that all of now is on the device for good.
func (y *tale) durable() {
	y.since = []state{y.now.clone()}
	y.values = map[int][][]byte{}
	for b, role := range y.now.roles {
		if role == 'd' {
			y.values[b] = [][]byte{y.now.blocks[b]}
		}
	}
}

// among answers one of the blocks, in own, of that role; -1, if there is none.
func (y *tale) among(role byte) int {
	var list []int
	for b := y.p.IBits; b < y.p.Blocks; b++ {
		if y.own.roles[b] == role && (role != 0 || !y.g.Kept(b)) {
			list = append(list, b)
		}
	}
	if len(list) == 0 {
		return -1
	}
	return list[y.x.below(len(list))]
}

// act does one thing to a block within the operation.
func (y *tale) act(o *group.Op) {
	y.t.Helper()
	y.mark++
	data := y.block(y.mark)
	switch k := y.x.below(12); {
	case k < 3:
		y.writes(o, y.among('w'), data)
	case k < 6:
		y.writes(o, y.among(0), data)
	case k < 8:
		y.puts(o, y.among('d'), data)
	case k < 10:
		y.puts(o, y.among(0), data)
	case k == 10:
		y.frees(o, y.among('d'))
	default:
		y.frees(o, y.among('w'))
	}
}

func (y *tale) writes(o *group.Op, b int, data []byte) {
	if b >= 0 {
		want(y.t, "Write", o.Write(b, data), api.OK)
		y.own.blocks[b], y.own.roles[b] = data, 'w'
	}
}

func (y *tale) puts(o *group.Op, b int, data []byte) {
	if b >= y.p.Data {
		want(y.t, "Data", o.Data(b, data), api.OK)
		y.own.blocks[b], y.own.roles[b] = data, 'd'
	}
}

// frees: what is read of a freed block is what the last Commit left there, but nobody should ask.
func (y *tale) frees(o *group.Op, b int) {
	if b >= y.p.Data {
		want(y.t, "Free", o.Free(b), api.OK)
		y.own.blocks[b], y.own.roles[b] = y.since[0].blocks[b], 0
	}
}

// operation does one operation; it answers false where the device died.
func (y *tale) operation() bool {
	y.t.Helper()
	o := y.begin()
	y.own = y.now.clone()
	for range 1 + y.x.below(7) {
		y.act(o)
		if y.x.below(6) == 0 && !y.ask(o, y.own) || y.x.below(6) == 0 && !y.ask(y.g, y.now) {
			return false
		}
	}
	if y.x.below(8) == 0 {
		want(y.t, "Abort", o.Abort(), api.OK)
		return true
	}
	return y.ends(o)
}

// ends ends the operation, and takes it for done or not.
func (y *tale) ends(o *group.Op) bool {
	y.t.Helper()
	seq := y.l.Header().Seq
	e := o.End()
	y.tell("End", e)
	// The Commit within End was done where the log has more than it had; what the operation itself did comes behind it.
	if y.l.Header().Seq != seq {
		y.durable()
		for b, role := range y.own.roles {
			if role == 0 && y.now.roles[b] != 0 {
				y.own.blocks[b] = y.now.blocks[b]
			}
		}
	}
	if e != api.ErrLarge {
		y.noteData()
	}
	switch e {
	case api.OK:
		y.now = y.own
		y.since = append(y.since, y.now.clone())
	case api.ErrLarge:
	case api.ErrDead:
		return false
	default:
		y.t.Fatal("End:", e)
	}
	return true
}

// noteData takes the operation's data as what may stand on the device from now on, whether all of it was put or not.
func (y *tale) noteData() {
	for b, role := range y.own.roles {
		if role == 'd' && !bytes.Equal(y.own.blocks[b], y.now.blocks[b]) {
			y.once[b] = 1
			if y.values[b] != nil {
				y.values[b] = append(y.values[b], y.own.blocks[b])
			}
		}
	}
}

// ask reads some of the blocks that are in use; it answers false where the device died.
func (y *tale) ask(r reader, s state) bool {
	y.t.Helper()
	for range 1 + y.x.below(4) {
		b := y.x.below(y.p.Blocks)
		if s.roles[b] == 0 {
			continue
		}
		got, e := r.Read(b)
		y.tell("Read", e, b, got)
		if e == api.ErrDead {
			return false
		}
		if e != api.OK || !bytes.Equal(got, s.blocks[b]) {
			y.t.Fatalf("Read(%d): %v, %d, should be %v", b, got, e, s.blocks[b])
		}
	}
	return true
}

// sweep reads all blocks that are in use.
func (y *tale) sweep() {
	y.t.Helper()
	for b, role := range y.now.roles {
		if role != 0 {
			y.wantRead(y.g, b, y.now.blocks[b])
		}
	}
}

// step does one thing, mostly an operation; it answers false where the device died.
func (y *tale) step() bool {
	y.t.Helper()
	var e api.Errno
	switch k := y.x.below(20); {
	case k < 13:
		return y.operation()
	case k < 15:
		return y.ask(y.g, y.now)
	case k < 18:
		e = y.g.Commit()
		y.tell("Commit", e)
	case k == 18:
		e = y.g.Settle()
		y.tell("Settle", e)
	default:
		return y.out()
	}
	if e == api.ErrDead {
		return false
	}
	want(y.t, "Commit or Settle", e, api.OK)
	y.wantBlocks()
	y.durable()
	return true
}

// out lets some blocks of data arrive.
func (y *tale) out() bool {
	y.t.Helper()
	var list []int
	for b, role := range y.now.roles {
		if role == 'd' && y.x.below(2) == 0 {
			list = append(list, b)
		}
	}
	e := y.g.Out(list)
	y.tell("Out", e)
	if e == api.ErrDead {
		return false
	}
	want(y.t, "Out", e, api.OK)
	for _, b := range list {
		if y.values[b] != nil {
			y.values[b] = [][]byte{y.now.blocks[b]}
		}
	}
	return true
}

func (y *tale) tell(what ...any) {
	y.told = append(y.told, fmt.Sprintln(what...))
}

// taleOf are plans with little room for tales.
func taleOf(t *testing.T, i int) api.Plan {
	t.Helper()
	n := [][4]int{{64, 16, 2, 4}, {64, 24, 2, 6}, {64, 34, 4, 9}, {128, 40, 9, 12}, {64, 80, 2, 30}}[i%5]
	return planned(t, n[0], n[1], n[2], n[3])
}

// TestWhatIsRead: what follows: whatever the cache's size and picks, and whatever is committed when, what is read is what was written last; and all answers are the same for all caches.
func TestWhatIsRead(t *testing.T) {
	for seed := range 60 {
		var first []string
		for i, capacity := range []int{1, 2, 3, 5, 8, 16, 64, 512, 1, 2, 3, 5} {
			x := dice(100*seed + i)
			var picks []int
			if i > 3 {
				picks = x.picks(200)
			}
			y := newTale(t, taleOf(t, seed), seed, capacity, picks...)
			for range 80 {
				if !y.step() {
					t.Fatal("the device died")
				}
				if i%2 == 0 {
					y.sweep()
				}
			}
			y.sweep()
			want(t, "Settle", y.g.Settle(), api.OK)
			y.sweep()
			if i == 0 {
				first = y.told
			} else if !slices.Equal(first, y.told) {
				t.Errorf("a cache of %d answers otherwise than one of 1", capacity)
			}
			if t.Failed() {
				t.Fatal("seed:", seed, "cache:", i)
			}
		}
	}
}

// picksFor answers ways in which a crash can go: all of them, if they are few.
func picksFor(x *dice, waits []int) [][]int {
	ways := 1
	for i := 1; i < len(waits) && ways <= 40; i += 2 {
		ways *= waits[i] + 1
	}
	if ways > 40 {
		ways = 0
	}
	var list [][]int
	for code := range max(ways, 6) {
		var picks []int
		for i := 1; i < len(waits); i += 2 {
			pick := x.below(waits[i] + 1)
			switch {
			case ways > 0:
				pick = code % (waits[i] + 1)
				code /= waits[i] + 1
			case code == 0:
				pick = 0
			case code == 1:
				pick = waits[i]
			}
			picks = append(picks, pick)
		}
		list = append(list, picks)
	}
	if ways > 0 {
		list = list[:ways]
	}
	return list
}

// recovered opens the log of a device that has crashed, and applies it, cut off as often as x says.
func recovered(t *testing.T, x *dice, d *device.Device, p api.Plan) {
	t.Helper()
	for range x.below(3) {
		l, e := wal.Open(d, p)
		want(t, "wal.Open", e, api.OK)
		want(t, "Fuse", d.Fuse(x.below(p.Log+4)), api.OK)
		l.Apply()
		want(t, "Crash", d.Crash(x.picks(10)), api.OK)
	}
	l, e := wal.Open(d, p)
	want(t, "wal.Open", e, api.OK)
	want(t, "Apply", l.Apply(), api.OK)
	want(t, "Crash", d.Crash(nil), api.OK)
}

// left answers which of the states the device is in, in all blocks that were never written by Data; -1, if in none.
func (y *tale) left() int {
	image := imageOf(y.d)
	return slices.IndexFunc(y.since, func(s state) bool {
		for b := y.p.IBits; b < y.p.Blocks; b++ {
			if y.once[b] == 0 && !bytes.Equal(image[b], s.blocks[b]) {
				return false
			}
		}
		return true
	})
}

// check holds a device that has crashed and recovered against the tale; it answers the state that it is in.
func (y *tale) check(how any) int {
	y.t.Helper()
	k := y.left()
	if k < 0 {
		y.t.Fatalf("%v: of %d states it is in none", how, len(y.since))
	}
	for b, values := range y.values {
		got, _ := y.d.Read(b)
		if !slices.ContainsFunc(values, func(v []byte) bool { return bytes.Equal(v, got) }) {
			y.t.Fatalf("%v: block %d of data is none of those %d since the last Commit", how, b, len(values))
		}
	}
	return k
}

// TestCrashes: what follows: the device dies at each write and flush of many tales, and any of what waits arrives: behind it the log, opened and applied, finds what the first operations have left, up to one behind the last Commit that answered OK; and no data that was there at that Commit is lost.
func TestCrashes(t *testing.T) {
	// How often nothing was there behind the last Commit, and how often something.
	var none, some int
	for seed := range 60 {
		died := func(fuse int) *tale {
			x := dice(300 + seed)
			y := newTale(t, taleOf(t, seed), 1000+seed, 1+x.below(4), x.picks(60)...)
			want(t, "Fuse", y.d.Fuse(fuse), api.OK)
			for range 14 {
				if !y.step() {
					break
				}
			}
			return y
		}
		for fuse := 0; ; fuse++ {
			y := died(fuse)
			if !y.d.Dead() {
				break
			}
			x := dice(77*seed + fuse)
			for _, picks := range picksFor(&x, y.d.Waiting()) {
				y := died(fuse)
				want(t, "Crash", y.d.Crash(picks), api.OK)
				recovered(t, &x, y.d, y.p)
				if y.check([]any{seed, fuse, picks}) == 0 {
					none++
				} else {
					some++
				}
			}
		}
	}
	if none < 500 || some < 500 {
		t.Error("the first state, and later ones:", none, some)
	}
}

// TestLives: what follows, of groups that are made anew on what the last crash left, again and again.
func TestLives(t *testing.T) {
	for seed := range 60 {
		x := dice(9000 + seed)
		y := newTale(t, taleOf(t, seed), seed, 1+x.below(6), x.picks(50)...)
		for life := range 20 {
			want(t, "Fuse", y.d.Fuse(x.below(80)), api.OK)
			for y.step() {
			}
			waits := picksFor(&x, y.d.Waiting())
			want(t, "Crash", y.d.Crash(waits[x.below(len(waits))]), api.OK)
			if x.below(2) == 0 {
				recovered(t, &x, y.d, y.p)
			} else {
				want(t, "Settle", mounted(t, y.d, y.p, 1).g.Settle(), api.OK)
			}
			k := y.check([]int{seed, life})
			once, mark := y.once, y.mark
			y = goneOn(t, y.d, y.p, imageOf(y.d), y.since[k].roles, int(y.x), 1+x.below(6), x.picks(50)...)
			y.once, y.mark = once, mark%40000
		}
	}
}

// TestNothingLost: what follows: behind a Commit that answered OK all is there, whatever of what waits arrives, and of the log as of data; behind a Settle nothing is pending.
func TestNothingLost(t *testing.T) {
	for seed := range 200 {
		x := dice(600 + seed)
		y := newTale(t, taleOf(t, seed), 2000+seed, 1+x.below(6), x.picks(50)...)
		for range 1 + x.below(12) {
			y.step()
		}
		settles := x.below(2) == 0
		if settles {
			y.settle()
		} else {
			y.commit()
		}
		want(t, "Crash", y.d.Crash(x.picks(30)), api.OK)
		again := mounted(t, y.d, y.p, 1+x.below(6))
		if settles {
			again.wantPending()
			again.wantKept()
		}
		for b, role := range y.now.roles {
			if role != 0 {
				again.wantRead(again.g, b, y.now.blocks[b])
			}
		}
		if t.Failed() {
			t.Fatal("seed:", seed)
		}
	}
}

// TestWholeOrNot: what follows, by hand: three operations, two of them behind the Commit, and a crash at each step of the next Commit: both are there, or neither, and never one's block without another's.
func TestWholeOrNot(t *testing.T) {
	p := planned(t, 64, 100, 10, 8)
	var old, fresh int
	for fuse := 0; ; fuse++ {
		for pick := range 2 {
			w := newWorld(t, p, 4)
			w.wrote(50, 1, 2, 3)
			w.commit()
			w.wrote(50, 4)
			w.wrote(51, 5)
			want(t, "Fuse", w.d.Fuse(fuse), api.OK)
			if w.g.Commit() == api.OK {
				if fuse != 6 || old == 0 || fresh == 0 {
					t.Error("fuse, old, new:", fuse, old, fresh)
				}
				return
			}
			want(t, "Crash", w.d.Crash(slices.Repeat([]int{pick}, 20)), api.OK)
			again := mounted(t, w.d, p, 4)
			if got, _ := again.g.Read(50); bytes.Equal(got, w.block(1)) {
				again.wantMark(again.g, 51, 2)
				old++
			} else {
				again.wantMark(again.g, 50, 4)
				again.wantMark(again.g, 51, 5)
				fresh++
			}
			again.wantMark(again.g, 52, 3)
		}
	}
}
