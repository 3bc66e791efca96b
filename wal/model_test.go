package wal_test

import (
	"bytes"
	"math"
	"slices"
	"testing"

	"skerry/api"
	"skerry/crc"
	"skerry/device"
	"skerry/plan"
	"skerry/wal"
)

// little answers a number's bytes, the least one first.
func little(width, v int) []byte {
	b := make([]byte, width)
	for i := range b {
		b[i] = byte(v >> (8 * i))
	}
	return b
}

// number answers what little wrote.
func number(b []byte) int {
	v := 0
	for i := range b {
		v |= int(b[i]) << (8 * i)
	}
	return v
}

// headerBytes are those of a log's header, as chapter 6 lays them.
func headerBytes(h api.Header, block int) []byte {
	head := slices.Concat([]byte("SLOG"), little(4, h.Seq), little(2, h.Tail), little(2, h.Used))
	b := make([]byte, block)
	copy(b, slices.Concat(head, little(4, crc.Sum(head))))
	return b
}

// descBytes are those of a descriptor, also of a list that none may have.
func descBytes(seq int, list []int, block int) []byte {
	b := make([]byte, block)
	copy(b[4:], slices.Concat(little(4, seq), little(2, len(list))))
	for i, v := range list {
		copy(b[min(10+2*i, block):], little(2, v))
	}
	copy(b, little(4, crc.Sum(b[4:])))
	return b
}

// mostOf counts how many numbers of two bytes stand behind ten bytes.
func mostOf(block int) int {
	n := 0
	for at := 10; at+2 <= block; at += 2 {
		n++
	}
	return n
}

// cut answers a list in parts, as they stand behind a descriptor each.
func cut(p api.Plan, list []api.Write) [][]api.Write {
	return slices.Collect(slices.Chunk(list, mostOf(p.Block)))
}

// step is a write, or, of block -1, a flush.
type step struct {
	b    int
	data []byte
}

var flush = step{b: -1}

func (s step) do(d *device.Device) api.Errno {
	if s.b < 0 {
		return d.Flush()
	}
	return d.Write(s.b, s.data)
}

// model is the chapter's log as a plain list: all blocks that stand in it, the oldest one first.
type model struct {
	d    *device.Device
	p    api.Plan
	h    api.Header
	all  []api.Write
	dead bool
}

// do takes steps up to the first that the device refuses.
func (m *model) do(steps []step) api.Errno {
	for _, s := range steps {
		if e := s.do(m.d); e != api.OK {
			m.dead = true
			return e
		}
	}
	return api.OK
}

func (m *model) room() int {
	return m.p.Log - m.h.Used
}

func (m *model) pending() []api.Write {
	var list []api.Write
	for b := range m.p.Blocks {
		for _, w := range slices.Backward(m.all) {
			if w.Block == b {
				list = append(list, w)
				break
			}
		}
	}
	return list
}

// errors answers the first of Commit's errors that are the list's.
func (m *model) errors(list []api.Write) api.Errno {
	has := func(bad func(i int, w api.Write) bool) bool {
		for i, w := range list {
			if bad(i, w) {
				return true
			}
		}
		return false
	}
	parts := len(cut(m.p, list))
	switch {
	case has(func(_ int, w api.Write) bool { return len(w.Data) != m.p.Block }):
		return api.ErrArg
	case has(func(_ int, w api.Write) bool { return w.Block < m.p.IBits || w.Block >= m.p.Blocks }):
		return api.ErrRange
	case has(func(i int, w api.Write) bool {
		return slices.ContainsFunc(list[:i], func(v api.Write) bool { return v.Block == w.Block })
	}):
		return api.ErrValue
	case len(list)+parts > m.p.Log:
		return api.ErrLarge
	case m.h.Seq+parts > 1<<32-1:
		return api.ErrFull
	}
	return api.OK
}

// commitSteps answers what a list that is not refused and has room asks for, and the header behind it.
func (m *model) commitSteps(list []api.Write) ([]step, api.Header) {
	var steps []step
	h := m.h
	put := func(data []byte) {
		steps = append(steps, step{m.p.LogAt + (h.Tail+h.Used)%m.p.Log, data})
		h.Used++
	}
	for _, part := range cut(m.p, list) {
		var blocks []int
		for _, w := range part {
			blocks = append(blocks, w.Block)
		}
		put(descBytes(h.Seq, blocks, m.p.Block))
		for _, w := range part {
			put(w.Data)
		}
		h.Seq++
	}
	return append(steps, flush, step{1, headerBytes(h, m.p.Block)}, flush), h
}

func (m *model) commit(list []api.Write) api.Errno {
	if e := m.errors(list); e != api.OK {
		return e
	}
	if m.dead {
		return api.ErrDead
	}
	if len(list) == 0 {
		return api.OK
	}
	if len(list)+len(cut(m.p, list)) > m.room() {
		if e := m.apply(); e != api.OK {
			return e
		}
	}
	steps, h := m.commitSteps(list)
	if e := m.do(steps); e != api.OK {
		return e
	}
	m.h, m.all = h, append(m.all, list...)
	return api.OK
}

// applySteps answers what an Apply asks for, and the header behind it.
func (m *model) applySteps() ([]step, api.Header) {
	var steps []step
	for _, w := range m.pending() {
		steps = append(steps, step{w.Block, w.Data})
	}
	h := api.Header{Seq: m.h.Seq, Tail: m.h.Tail + m.h.Used}
	if h.Tail >= m.p.Log {
		h.Tail -= m.p.Log
	}
	return append(steps, flush, step{1, headerBytes(h, m.p.Block)}, flush), h
}

func (m *model) apply() api.Errno {
	if m.dead {
		return api.ErrDead
	}
	if m.h.Used == 0 {
		return api.OK
	}
	steps, h := m.applySteps()
	if e := m.do(steps); e != api.OK {
		return e
	}
	m.h, m.all = h, nil
	return api.OK
}

// opened answers the model's log of what stands on a device.
func opened(d *device.Device, p api.Plan) (*model, api.Errno) {
	head, e := d.Read(1)
	if e != api.OK {
		return nil, e
	}
	h := api.Header{Seq: number(head[4:8]), Tail: number(head[8:10]), Used: number(head[10:12])}
	if !bytes.Equal(head, headerBytes(h, p.Block)) || h.Tail >= p.Log || h.Used > p.Log {
		return nil, api.ErrCorrupt
	}
	var ring [][]byte
	for k := range h.Used {
		b, _ := d.Read(p.LogAt + (h.Tail+k)%p.Log)
		ring = append(ring, b)
	}
	m := &model{d: d, p: p, h: h}
	var seqs []int
	for len(ring) > 0 {
		list, seq := listed(ring[0], p)
		if len(list) == 0 || len(list) >= len(ring) {
			return nil, api.ErrCorrupt
		}
		for i, b := range list {
			m.all = append(m.all, api.Write{Block: b, Data: ring[1+i]})
		}
		ring, seqs = ring[1+len(list):], append(seqs, seq)
	}
	for i, seq := range seqs {
		if seq != h.Seq-len(seqs)+i {
			return nil, api.ErrCorrupt
		}
	}
	return m, api.OK
}

// listed answers the list and the seq of a descriptor; no list, if it is none, or one that no log has.
func listed(b []byte, p api.Plan) ([]int, int) {
	seq, n := number(b[4:8]), number(b[8:10])
	if n > mostOf(p.Block) {
		return nil, 0
	}
	var list []int
	for i := range n {
		v := number(b[10+2*i:][:2])
		if v < p.IBits || v >= p.Blocks || slices.Contains(list, v) {
			return nil, 0
		}
		list = append(list, v)
	}
	if !bytes.Equal(b, descBytes(seq, list, p.Block)) {
		return nil, 0
	}
	return list, seq
}

// formatted is Format by its words.
func formatted(d *device.Device, p api.Plan) api.Errno {
	m := model{d: d, p: p}
	return m.do([]step{{1, headerBytes(api.Header{Seq: 1}, p.Block)}, flush})
}

// call is a call of the log, or of what stands beneath it.
type call struct {
	name  string
	list  []api.Write
	n     int
	data  []byte
	picks []int
}

// pair is a log and the model, each on a device of its own.
type pair struct {
	d *device.Device
	l *wal.Log
	m *model
}

// newPair answers a log on a new device, and its model.
func newPair(t *testing.T, p api.Plan) *pair {
	t.Helper()
	d, twin := stood(t, p), stood(t, p)
	want(t, "Format", wal.Format(d, p), api.OK)
	want(t, "formatted", formatted(twin, p), api.OK)
	return reopened(t, d, twin, p)
}

// reopened answers the log on d, and the model on its twin.
func reopened(t *testing.T, d, twin *device.Device, p api.Plan) *pair {
	t.Helper()
	m, e := opened(twin, p)
	if e != api.OK {
		t.Fatal("opened:", e)
	}
	return &pair{d, made(t, d, p), m}
}

// run lets both do one call; a log that can't be opened leaves the one that is there.
func (p *pair) run(x call) (got, wanted api.Errno) {
	switch x.name {
	case "Commit":
		return p.l.Commit(x.list), p.m.commit(x.list)
	case "Apply":
		return p.l.Apply(), p.m.apply()
	case "Format":
		return wal.Format(p.d, p.m.p), formatted(p.m.d, p.m.p)
	case "Open":
		l, e := wal.Open(p.d, p.m.p)
		m, f := opened(p.m.d, p.m.p)
		if (l != nil) != (e == api.OK) {
			return -1, f
		}
		if e == api.OK && f == api.OK {
			p.l, p.m = l, m
		}
		return e, f
	}
	return beneath(p.d, x), beneath(p.m.d, x)
}

// beneath does a call of the device.
func beneath(d *device.Device, x call) api.Errno {
	switch x.name {
	case "Fuse":
		return d.Fuse(x.n)
	case "Crash":
		return d.Crash(x.picks)
	case "Flush":
		return d.Flush()
	case "Write":
		return d.Write(x.n, x.data)
	}
	return d.Load(x.n, x.data)
}

// same holds all that can be told of the log and of its device against the model.
func (p *pair) same(t *testing.T, script any) {
	t.Helper()
	p.sameLog(t, script)
	d, twin := p.d, p.m.d
	if d.Dead() != twin.Dead() || d.Writes() != twin.Writes() || !slices.Equal(d.Waiting(), twin.Waiting()) {
		t.Fatalf("behind %v: dead %v, %d writes, waiting %v; should be %v, %d, %v", script, d.Dead(), d.Writes(), d.Waiting(), twin.Dead(), twin.Writes(), twin.Waiting())
	}
	for b := range twin.Blocks() {
		got, e := d.Read(b)
		wanted, f := twin.Read(b)
		if e != f || !bytes.Equal(got, wanted) {
			t.Fatalf("behind %v: Read(%d) %v, %v, should be %v, %v", script, b, got, e, wanted, f)
		}
	}
}

func (p *pair) sameLog(t *testing.T, script any) {
	t.Helper()
	if got := p.l.Header(); got != p.m.h {
		t.Fatalf("behind %v: Header %v, should be %v", script, got, p.m.h)
	}
	if got := p.l.Room(); got != p.m.room() {
		t.Fatalf("behind %v: Room %d, should be %d", script, got, p.m.room())
	}
	if got := p.l.Pending(); !equal(got, p.m.pending()) {
		t.Fatalf("behind %v: Pending %v, should be %v", script, got, p.m.pending())
	}
}

func equal(a, b []api.Write) bool {
	return slices.EqualFunc(a, b, func(v, w api.Write) bool {
		return v.Block == w.Block && bytes.Equal(v.Data, w.Data)
	})
}

// dice are numbers that look like chance, the same ones each time.
type dice uint64

func (x *dice) below(n int) int {
	*x = *x*6364136223846793005 + 1442695040888963407
	return int(uint64(*x) >> 33 % uint64(n))
}

// picks answers how a crash goes, for more blocks than mostly wait.
func (x *dice) picks(most int) []int {
	list := make([]int, x.below(most+1))
	for i := range list {
		list[i] = x.below(4) - 1
		if x.below(15) == 0 {
			list[i] = []int{math.MinInt, math.MaxInt, 400, -2}[x.below(4)]
		}
	}
	return list
}

// writes answers a list of different blocks that a log of the plan may have, at most that many.
func (x *dice) writes(p api.Plan, most, mark int) []api.Write {
	var list []api.Write
	for range x.below(most + 1) {
		b := p.IBits + x.below(p.Blocks-p.IBits)
		if !slices.ContainsFunc(list, func(w api.Write) bool { return w.Block == b }) {
			list = append(list, api.Write{Block: b, Data: marked(p.Block, mark+len(list))})
		}
	}
	return list
}

// spoil makes a list one that is refused, mostly.
func (x *dice) spoil(p api.Plan, list []api.Write) []api.Write {
	for range 1 + x.below(2) {
		if len(list) == 0 {
			return list
		}
		w := &list[x.below(len(list))]
		switch x.below(4) {
		case 0:
			w.Data = w.Data[:len(w.Data)/2]
		case 1:
			w.Data = append(w.Data, 0)
		case 2:
			w.Block = []int{-1, 0, 1, p.LogAt, p.IBits - 1, p.Blocks, math.MinInt, math.MaxInt}[x.below(8)]
		case 3:
			list = append(list, api.Write{Block: w.Block, Data: w.Data})
		}
	}
	return list
}

// nextCall answers one that makes sense behind those that were, or not.
func (x *dice) nextCall(p api.Plan, mark int) call {
	b := x.below(p.Blocks)
	switch k := x.below(100); {
	case k < 40:
		return call{name: "Commit", list: x.writes(p, 3, mark)}
	case k < 55:
		return call{name: "Commit", list: x.writes(p, p.Log, mark)}
	case k < 61:
		return call{name: "Commit", list: x.spoil(p, x.writes(p, p.Log, mark))}
	case k < 68:
		return call{name: "Apply"}
	case k < 76:
		return call{name: "Open"}
	case k < 84:
		return call{name: "Fuse", n: []int{0, 1, 2, 3, 5, 8, 13, 21, -1, math.MaxInt}[x.below(10)]}
	case k < 93:
		return call{name: "Crash", picks: x.picks(12)}
	case k < 95:
		return call{name: "Format"}
	case k < 97:
		return call{name: "Flush"}
	case k < 99:
		return call{name: "Write", n: b, data: marked(p.Block, mark)}
	}
	return call{name: "Load", n: b, data: marked(p.Block, mark)}
}

// plans answers small and greater logs, of different sizes of blocks.
func plans(t *testing.T) []api.Plan {
	t.Helper()
	var list []api.Plan
	for _, n := range [][4]int{{64, 10, 2, 4}, {64, 14, 2, 5}, {64, 60, 6, 8}, {64, 90, 4, 31}, {64, 200, 4, 70}, {128, 40, 9, 6}, {256, 30, 2, 9}, {4096, 24, 2, 7}} {
		list = append(list, planned(t, n[0], n[1], n[2], n[3]))
	}
	return list
}

// TestLongScripts: P9.1 to P9.6, long mixed scripts of all calls, with fuses, crashes, opening again, and foreign writes, answer as the model does and leave the device as it says.
func TestLongScripts(t *testing.T) {
	for seed := range 160 {
		x := dice(seed)
		all := plans(t)
		p := newPair(t, all[seed%len(all)])
		for i := range 250 {
			c := x.nextCall(p.m.p, 100*i)
			if got, wanted := p.run(c); got != wanted {
				t.Fatalf("seed %d, call %d, %s of %d: %d, should be %d", seed, i, c.name, len(c.list), got, wanted)
			}
			p.same(t, i)
			// A log that has met a dead device does nothing more, so a new one is opened soon.
			if p.m.dead && x.below(3) == 0 {
				for _, c := range []call{{name: "Crash", picks: x.picks(20)}, {name: "Open"}} {
					if got, wanted := p.run(c); got != wanted {
						t.Fatalf("seed %d, call %d, %s: %d, should be %d", seed, i, c.name, got, wanted)
					}
					p.same(t, i)
				}
			}
		}
	}
}

// TestAllScripts: P9.2 to P9.6, all scripts of five calls on the least log, of calls that fill it, go over its end, and are cut off.
func TestAllScripts(t *testing.T) {
	plan := planned(t, 64, 10, 2, 4)
	calls := []call{
		{name: "Commit", list: writes(plan, 1, 9)}, {name: "Commit", list: writes(plan, 3, 8, 6)}, {name: "Commit", list: writes(plan, 5, 6, 7, 9)},
		{name: "Apply"}, {name: "Open"}, {name: "Fuse", n: 4}, {name: "Crash", picks: []int{1, 0, 1}},
	}
	script := make([]int, 5)
	for {
		p := newPair(t, plan)
		for i, k := range script {
			c := calls[k]
			for j := range c.list {
				c.list[j].Data = marked(64, 100*i+10*k+j)
			}
			if got, wanted := p.run(c); got != wanted {
				t.Fatalf("script %v, call %d: %d, should be %d", script, i, got, wanted)
			}
		}
		p.same(t, script)
		p.run(call{name: "Crash", picks: []int{1, 1, 0, 1}})
		if got, wanted := p.run(call{name: "Open"}); got != wanted {
			t.Fatalf("script %v: Open %d, should be %d", script, got, wanted)
		}
		p.same(t, script)
		at := 0
		for at < len(script) && script[at] == len(calls)-1 {
			script[at] = 0
			at++
		}
		if at == len(script) {
			return
		}
		script[at]++
	}
}

// refuse lets a log refuse calls that may change nothing.
func refuse(t *testing.T, d *device.Device, l *wal.Log, p api.Plan, dead bool) {
	t.Helper()
	nothing := api.OK
	if dead {
		nothing = api.ErrDead
	}
	last := p.Blocks - 1
	good := api.Write{Block: last, Data: marked(p.Block, 1)}
	for _, x := range []struct {
		list   []api.Write
		wanted api.Errno
	}{
		{[]api.Write{good, {Block: p.IBits, Data: marked(p.Block, 2)[1:]}}, api.ErrArg},
		{[]api.Write{good, {Block: p.IBits}}, api.ErrArg},
		{[]api.Write{good, {Block: p.IBits - 1, Data: marked(p.Block, 3)}}, api.ErrRange},
		{[]api.Write{good, {Block: p.Blocks, Data: marked(p.Block, 3)}}, api.ErrRange},
		{[]api.Write{good, good}, api.ErrValue},
		{nil, nothing},
	} {
		want(t, "Commit", l.Commit(x.list), x.wanted)
	}
	other := p
	other.Data++
	want(t, "Format", wal.Format(d, other), api.ErrForm)
	want(t, "Format", wal.Format(nil, p), api.ErrArg)
	wal.Open(d, p)
	wal.Open(d, other)
	wal.Need(p, -1)
}

// TestRefused: R6, a log that refuses calls between those of a script tells what one tells that is not asked them, to the last write.
func TestRefused(t *testing.T) {
	for seed := range 60 {
		x := dice(700 + seed)
		all := plans(t)
		p := newPair(t, all[seed%len(all)])
		for i := range 1 + 2*seed {
			refuse(t, p.d, p.l, p.m.p, p.m.dead)
			c := x.nextCall(p.m.p, 100*i)
			if got, wanted := p.run(c); got != wanted {
				t.Fatalf("seed %d, call %d, %s: %d, should be %d", seed, i, c.name, got, wanted)
			}
			refuse(t, p.d, p.l, p.m.p, p.m.dead)
			p.same(t, i)
		}
		if t.Failed() {
			t.Fatal("seed:", seed)
		}
	}
}

// TestManyLogs: R5, logs on devices of their own, whose calls go in turns, tell what each would tell alone.
func TestManyLogs(t *testing.T) {
	x := dice(77)
	var all []*pair
	for _, p := range plans(t) {
		all = append(all, newPair(t, p))
	}
	for i := range 1500 {
		p := all[x.below(len(all))]
		c := x.nextCall(p.m.p, 30*i)
		if got, wanted := p.run(c); got != wanted {
			t.Fatalf("call %d, %s: %d, should be %d", i, c.name, got, wanted)
		}
		for _, other := range all {
			other.sameLog(t, i)
		}
		p.same(t, i)
	}
	for i, p := range all {
		p.same(t, i)
	}
}

// TestOneDevice: R5, two logs have nothing in common but the device that both were given: what one commits, the other does not know.
func TestOneDevice(t *testing.T) {
	for seed := range 20 {
		x := dice(900 + seed)
		one := newPair(t, planned(t, 64, 40, 4, 9))
		two := reopened(t, one.d, one.m.d, one.m.p)
		for i := range 150 {
			p := []*pair{one, two}[x.below(2)]
			c := x.nextCall(p.m.p, 100*i)
			if got, wanted := p.run(c); got != wanted {
				t.Fatalf("seed %d, call %d, %s: %d, should be %d", seed, i, c.name, got, wanted)
			}
			one.same(t, i)
			two.same(t, i)
		}
	}
	// The same two logs by hand.
	p := planned(t, 64, 60, 6, 8)
	d := fresh(t, p)
	first, second := made(t, d, p), made(t, d, p)
	want(t, "Commit", first.Commit(writes(p, 1, 20)), api.OK)
	if second.Header() != (api.Header{Seq: 1}) || len(second.Pending()) != 0 || second.Room() != 8 {
		t.Error("the second log tells of the first one's:", second.Header(), second.Pending(), second.Room())
	}
	want(t, "Apply", second.Apply(), api.OK)
	if !equal(first.Pending(), writes(p, 1, 20)) {
		t.Error("the first log's Pending:", first.Pending())
	}
	die(t, d)
	want(t, "Apply", first.Apply(), api.ErrDead)
	want(t, "Crash", d.Crash(nil), api.OK)
	want(t, "Apply", first.Apply(), api.ErrDead)
	want(t, "Commit", second.Commit(writes(p, 2, 21)), api.OK)
	if !equal(second.Pending(), writes(p, 2, 21)) {
		t.Error("the second log's Pending:", second.Pending())
	}
}

// TestModel: the model's own words on a plan: it finds the parts that the chapter's example tells.
func TestModel(t *testing.T) {
	p := planned(t, 64, 60, 6, 8)
	if plan.Check(p) != api.OK || mostOf(64) != 27 || mostOf(4096) != 2043 {
		t.Fatal("the plan, or Most:", p, mostOf(64), mostOf(4096))
	}
	m := &model{p: p, h: api.Header{Seq: 3, Tail: 5}}
	steps, h := m.commitSteps(writes(p, 1, 22, 23, 24))
	var blocks []int
	for _, s := range steps {
		blocks = append(blocks, s.b)
	}
	if !slices.Equal(blocks, []int{7, 8, 9, 2, -1, 1, -1}) || h != (api.Header{Seq: 4, Tail: 5, Used: 4}) {
		t.Error("the model's steps:", blocks, h)
	}
}
