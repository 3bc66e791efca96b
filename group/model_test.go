package group_test

import (
	"bytes"
	"fmt"
	"maps"
	"math"
	"slices"
	"testing"

	"skerry/api"
	"skerry/cache"
	"skerry/device"
	"skerry/group"
	"skerry/wal"
)

// act is what an operation does to a block: w, d or f, as Write, Data or Free.
type act struct {
	kind byte
	b    int
	data []byte
}

// acts are those of an operation, in their order.
type acts []act

// last answers what counts of block b: kind 0, if nothing does.
func (a acts) last(b int) act {
	for _, x := range slices.Backward(a) {
		if x.b == b {
			return x
		}
	}
	return act{}
}

// blocks answers those for which the last act is of that kind, rising.
func (a acts) blocks(kind byte) []int {
	var list []int
	for _, x := range a {
		if a.last(x.b).kind == kind {
			list = append(list, x.b)
		}
	}
	slices.Sort(list)
	return slices.Compact(list)
}

// model is the chapter's group as a list of what operations did, on a device, a log and a cache of its own.
type model struct {
	d     *device.Device
	l     *wal.Log
	c     *cache.Cache
	p     api.Plan
	ended []acts
	open  *modelOp
}

type modelOp struct {
	m    *model
	acts acts
}

// has answers what the group has of block b: the last Write of those that have ended, unless a Free came behind it.
func (m *model) has(b int) []byte {
	for _, a := range slices.Backward(m.ended) {
		switch x := a.last(b); x.kind {
		case 'w':
			return x.data
		case 'f':
			return nil
		}
	}
	return nil
}

func (m *model) blocks() []int {
	var list []int
	for b := range m.p.Blocks {
		if m.has(b) != nil {
			list = append(list, b)
		}
	}
	return list
}

func (m *model) kept(b int) bool {
	freed := func(a acts) bool { return a.last(b).kind == 'f' }
	pending := func(w api.Write) bool { return w.Block == b }
	return slices.ContainsFunc(m.ended, freed) || m.open != nil && freed(m.open.acts) || slices.ContainsFunc(m.l.Pending(), pending)
}

func (m *model) read(b int) ([]byte, api.Errno) {
	if b < 0 || b >= m.p.Blocks {
		return nil, api.ErrRange
	}
	if data := m.has(b); data != nil {
		return data, api.OK
	}
	for _, w := range m.l.Pending() {
		if w.Block == b {
			return w.Data, api.OK
		}
	}
	return m.c.Get(b)
}

// need counts as the chapter of logs does.
func (m *model) need(n int) int {
	most := (m.p.Block - 10) / 2
	return n + (n+most-1)/most
}

func (m *model) apply() api.Errno {
	list := m.l.Pending()
	if e := m.l.Apply(); e != api.OK {
		return e
	}
	for _, w := range list {
		m.c.Clean(w.Block, w.Data)
	}
	return api.OK
}

func (m *model) commit() api.Errno {
	if m.open != nil {
		return api.ErrBusy
	}
	if e := m.c.All(); e != api.OK {
		return e
	}
	var list []api.Write
	for _, b := range m.blocks() {
		list = append(list, api.Write{Block: b, Data: m.has(b)})
	}
	if len(list) == 0 {
		if e := m.d.Flush(); e != api.OK {
			return e
		}
		m.ended = nil
		return api.OK
	}
	if m.need(len(list)) > m.l.Room() {
		if e := m.apply(); e != api.OK {
			return e
		}
	}
	if e := m.l.Commit(list); e != api.OK {
		return e
	}
	m.ended = nil
	return api.OK
}

func (m *model) settle() api.Errno {
	if e := m.commit(); e != api.OK {
		return e
	}
	return m.apply()
}

func (m *model) out(list []int) api.Errno {
	if e := m.c.Out(list); e != api.OK {
		return e
	}
	return m.d.Flush()
}

func (m *model) begin() (*modelOp, api.Errno) {
	if m.open != nil {
		return nil, api.ErrBusy
	}
	m.open = &modelOp{m: m}
	return m.open, api.OK
}

// over answers the errors that come ahead of all others.
func (o *modelOp) over() api.Errno {
	if o == nil {
		return api.ErrArg
	}
	if o.m.open != o {
		return api.ErrOver
	}
	return api.OK
}

func (o *modelOp) read(b int) ([]byte, api.Errno) {
	if e := o.over(); e != api.OK {
		return nil, e
	}
	if x := o.acts.last(b); x.kind == 'w' || x.kind == 'd' {
		return x.data, api.OK
	}
	return o.m.read(b)
}

func (o *modelOp) note(kind byte, b int, data []byte) api.Errno {
	if e := o.over(); e != api.OK {
		return e
	}
	p := o.m.p
	if kind == 'w' && b < p.IBits || kind != 'w' && b < p.Data || b >= p.Blocks {
		return api.ErrRange
	}
	if kind != 'f' && len(data) != p.Block {
		return api.ErrArg
	}
	o.acts = append(o.acts, act{kind, b, data})
	return api.OK
}

func (o *modelOp) abort() api.Errno {
	if e := o.over(); e != api.OK {
		return e
	}
	o.m.open = nil
	return api.OK
}

func (o *modelOp) end() api.Errno {
	if e := o.abort(); e != api.OK {
		return e
	}
	m, own := o.m, o.acts.blocks('w')
	if m.need(len(own)) > m.p.Log {
		return api.ErrLarge
	}
	both := slices.Concat(own, m.blocks())
	slices.Sort(both)
	if m.need(len(slices.Compact(both))) > m.p.Log {
		if e := m.commit(); e != api.OK {
			return e
		}
	}
	for _, b := range o.acts.blocks('d') {
		if e := m.c.Put(b, o.acts.last(b).data); e != api.OK {
			return e
		}
	}
	for _, b := range o.acts.blocks('f') {
		m.c.Drop(b)
	}
	m.ended = append(m.ended, o.acts)
	return api.OK
}

// call is a call of the group, of its operation (Op..), or of what stands beneath it.
type call struct {
	name string
	n    int
	data []byte
	list []int
}

// pair is a group and the model, each on a device of its own, with the operation that each began last, and the one ahead of it.
type pair struct {
	w        *world
	m        *model
	o, elder *group.Op
	u, uncle *modelOp
}

// newPair answers a group on a new device, and its model.
func newPair(t *testing.T, p api.Plan, capacity int, picks []int) *pair {
	t.Helper()
	return onDevices(t, fresh(t, p), fresh(t, p), p, capacity, picks)
}

func onDevices(t *testing.T, d, twin *device.Device, p api.Plan, capacity int, picks []int) *pair {
	t.Helper()
	v := mounted(t, twin, p, capacity, picks...)
	return &pair{w: mounted(t, d, p, capacity, picks...), m: &model{d: twin, l: v.l, c: v.c, p: p}}
}

// answer is all that a call may answer.
type answer struct {
	e    api.Errno
	data []byte
}

func told(e api.Errno) answer {
	return answer{e: e}
}

func read(data []byte, e api.Errno) answer {
	return answer{e, data}
}

// run lets both do one call.
func (p *pair) run(x call) (got, wanted answer) {
	switch x.name {
	case "Begin":
		return p.begin()
	case "Read":
		return read(p.w.g.Read(x.n)), read(p.m.read(x.n))
	case "Commit":
		return told(p.w.g.Commit()), told(p.m.commit())
	case "Settle":
		return told(p.w.g.Settle()), told(p.m.settle())
	case "Out":
		return told(p.w.g.Out(x.list)), told(p.m.out(x.list))
	case "OpRead":
		return read(p.o.Read(x.n)), read(p.u.read(x.n))
	case "OpWrite":
		return told(p.o.Write(x.n, x.data)), told(p.u.note('w', x.n, x.data))
	case "OpData":
		return told(p.o.Data(x.n, x.data)), told(p.u.note('d', x.n, x.data))
	case "OpFree":
		return told(p.o.Free(x.n)), told(p.u.note('f', x.n, nil))
	case "OpAbort":
		return told(p.o.Abort()), told(p.u.abort())
	case "OpEnd":
		return told(p.o.End()), told(p.u.end())
	case "ElderWrite":
		return told(p.elder.Write(x.n, x.data)), told(p.uncle.note('w', x.n, x.data))
	case "ElderEnd":
		return told(p.elder.End()), told(p.uncle.end())
	}
	return told(beneath(p.w.d, p.w.l, p.w.c, x)), told(beneath(p.m.d, p.m.l, p.m.c, x))
}

func (p *pair) begin() (got, wanted answer) {
	o, e := p.w.g.Begin()
	u, f := p.m.begin()
	if (o != nil) != (e == api.OK) {
		return told(-1), told(f)
	}
	if o != nil && u != nil {
		p.elder, p.uncle = p.o, p.u
		p.o, p.u = o, u
	}
	return told(e), told(f)
}

// beneath does a call of the device, the log or the cache.
func beneath(d *device.Device, l *wal.Log, c *cache.Cache, x call) api.Errno {
	switch x.name {
	case "Fuse":
		return d.Fuse(x.n)
	case "Crash":
		return d.Crash(x.list)
	case "Apply":
		return l.Apply()
	case "LogCommit":
		return l.Commit([]api.Write{{Block: x.n, Data: x.data}})
	case "Put":
		return c.Put(x.n, x.data)
	case "Pin":
		return c.Pin(x.n)
	case "Unpin":
		return c.Unpin(x.n)
	}
	return c.Drop(x.n)
}

// same holds all that can be told of the group, and of what it stands on, against the model's.
func (p *pair) same(t *testing.T, script any) {
	t.Helper()
	if got, wanted := p.w.g.Blocks(), p.m.blocks(); !slices.Equal(got, wanted) {
		t.Fatalf("behind %v: Blocks %v, should be %v", script, got, wanted)
	}
	kept := map[int]int{}
	for b := range p.m.p.Blocks {
		if p.m.kept(b) {
			kept[b] = 1
		}
	}
	for b := -2; b < p.m.p.Blocks+2; b++ {
		if p.w.g.Kept(b) != (kept[b] == 1) {
			t.Fatalf("behind %v: Kept(%d) %v; kept are %v", script, b, p.w.g.Kept(b), slices.Sorted(maps.Keys(kept)))
		}
	}
	// None of these is got from the cache, so they may be read between the calls of a script.
	for _, b := range slices.Concat(p.m.blocks(), pendingBlocks(p.m.l)) {
		got, e := p.w.g.Read(b)
		if wanted, f := p.m.read(b); e != f || !bytes.Equal(got, wanted) {
			t.Fatalf("behind %v: Read(%d) %v, %d, should be %v, %d", script, b, got, e, wanted, f)
		}
	}
	// What both stand on is told by the same words.
	twin := &world{t, p.m.p, p.m.d, p.m.l, p.m.c, p.w.g}
	if what := twin.snapped().differs(p.w.snapped()); what != "" {
		t.Fatalf("behind %v: not the same: %s", script, what)
	}
}

// pendingBlocks answers the blocks that are pending in a log, rising.
func pendingBlocks(l *wal.Log) []int {
	var list []int
	for _, w := range l.Pending() {
		list = append(list, w.Block)
	}
	return list
}

// follow lets both do a call, and holds their answers against each other.
func (p *pair) follow(t *testing.T, x call, script any) {
	t.Helper()
	if got, wanted := p.run(x); got.e != wanted.e || !bytes.Equal(got.data, wanted.data) {
		t.Fatalf("behind %v: %s(%d) of %d bytes: %v, should be %v", script, x.name, x.n, len(x.data), got, wanted)
	}
}

// dice are numbers that look like chance, the same ones each time.
type dice uint64

func (x *dice) below(n int) int {
	*x = *x*6364136223846793005 + 1442695040888963407
	return int(uint64(*x) >> 33 % uint64(n))
}

// picks answers which blocks go, or how a crash goes.
func (x *dice) picks(most int) []int {
	list := make([]int, x.below(most+1))
	for i := range list {
		list[i] = x.below(5) - 1
		if x.below(15) == 0 {
			list[i] = []int{math.MinInt, math.MaxInt, 400, -2}[x.below(4)]
		}
	}
	return list
}

// block answers one of few data blocks, mostly, so that calls meet each other; or one at an edge, or none.
func (x *dice) block(p api.Plan) int {
	switch k := x.below(20); {
	case k < 14:
		return p.Data + x.below(min(p.Blocks-p.Data, 9))
	case k < 16:
		return p.IBits + x.below(p.Blocks-p.IBits)
	case k < 18:
		return p.Blocks - 1 - x.below(min(p.Blocks-p.Data, 3))
	}
	return []int{-1, 0, 1, p.LogAt, p.IBits - 1, p.IBits, p.Data - 1, p.Data, p.Blocks - 1, p.Blocks, math.MinInt, math.MaxInt}[x.below(12)]
}

// nextCall answers one that makes sense behind those that were, or not.
func (x *dice) nextCall(p api.Plan, mark int) call {
	b, data := x.block(p), marked(p.Block, mark)
	switch x.below(40) {
	case 0:
		data = data[:x.below(p.Block)]
	case 1:
		data = append(data, 0)
	}
	switch k := x.below(200); {
	case k < 30:
		return call{name: "Begin"}
	case k < 50:
		return call{name: "OpRead", n: b}
	case k < 85:
		return call{name: "OpWrite", n: b, data: data}
	case k < 105:
		return call{name: "OpData", n: b, data: data}
	case k < 120:
		return call{name: "OpFree", n: b}
	case k < 124:
		return call{name: "OpAbort"}
	case k < 150:
		return call{name: "OpEnd"}
	case k < 162:
		return call{name: "Read", n: b}
	case k < 173:
		return call{name: "Commit"}
	case k < 178:
		return call{name: "Settle"}
	case k < 182:
		list := make([]int, x.below(5))
		for i := range list {
			list[i] = x.block(p)
		}
		return call{name: "Out", list: list}
	case k < 188:
		return call{name: "Fuse", n: []int{0, 1, 2, 3, 5, 8, 13, 21, -1, math.MaxInt}[x.below(10)]}
	}
	return x.odd(p, b, data)
}

// odd answers a call that comes seldom.
func (x *dice) odd(p api.Plan, b int, data []byte) call {
	name := []string{"ElderWrite", "ElderEnd", "Apply", "LogCommit", "Put", "Pin", "Unpin", "Unpin", "Drop", "Crash"}[x.below(10)]
	return call{name: name, n: b, data: data, list: x.picks(10)}
}

// plans answers small and greater logs, of different sizes of blocks.
func plans(t *testing.T) []api.Plan {
	t.Helper()
	var list []api.Plan
	for _, n := range [][4]int{{64, 10, 2, 4}, {64, 20, 2, 5}, {64, 30, 2, 8}, {64, 60, 6, 12}, {64, 90, 4, 31}, {128, 40, 9, 6}, {4096, 24, 2, 7}} {
		list = append(list, planned(t, n[0], n[1], n[2], n[3]))
	}
	return list
}

// TestLongScripts: P11.1 to P11.6, long mixed scripts of all calls, with fuses, crashes, groups that are made anew, and calls of others on the log and the cache: all answers are the model's, and so is all that the group stands on.
func TestLongScripts(t *testing.T) {
	counts := map[string]int{}
	for seed := range 210 {
		x := dice(seed)
		all := plans(t)
		p := newPair(t, all[seed%len(all)], []int{1, 2, 3, 5, 9, 40}[x.below(6)], x.picks(60))
		for i := range 300 {
			c := x.nextCall(p.m.p, 100+i)
			got, wanted := p.run(c)
			if got.e != wanted.e || !bytes.Equal(got.data, wanted.data) {
				t.Fatalf("seed %d, call %d, %s(%d) of %d bytes: %v, should be %v", seed, i, c.name, c.n, len(c.data), got, wanted)
			}
			counts[fmt.Sprint(c.name, got.e)]++
			p.same(t, []int{seed, i})
			// A log that has met a dead device does nothing more, so a new group is made soon.
			if got.e == api.ErrDead && x.below(3) == 0 {
				c := call{name: "Crash", list: x.picks(20)}
				p.follow(t, c, seed)
				p = onDevices(t, p.w.d, p.m.d, p.m.p, 1+x.below(8), x.picks(30))
				p.same(t, []int{seed, i})
			}
		}
	}
	// The scripts meet what they are for.
	for _, name := range []string{"OpEnd0", "OpEnd1", "OpEnd5", "OpEnd7", "OpEnd8", "OpEnd22", "Commit0", "Commit7", "Commit17", "Settle0", "Settle7", "Settle17", "Out0", "Out2", "Out7", "Begin0", "Begin17", "OpRead0", "OpRead2", "OpRead7", "OpRead8", "OpRead22", "Read0", "Read2", "OpWrite0", "OpWrite1", "OpWrite2", "OpWrite22", "OpData0", "OpData1", "OpData2", "OpFree0", "OpFree2", "OpAbort0", "ElderWrite22", "ElderEnd22"} {
		if counts[name] == 0 {
			t.Errorf("no script has %s", name)
		}
	}
}

// TestAllScripts: P11.2 to P11.6, all scripts of five acts of operations and commits on the least log, which hardly anything fits into, and a cache of one block.
func TestAllScripts(t *testing.T) {
	plan := planned(t, 64, 14, 2, 4)
	b := plan.Data
	calls := [][]call{
		{{name: "OpWrite", n: b}}, {{name: "OpWrite", n: b + 1}, {name: "OpWrite", n: b + 2}}, {{name: "OpData", n: b + 3}, {name: "OpData", n: b + 1}},
		{{name: "OpFree", n: b}, {name: "OpFree", n: b + 3}}, {{name: "OpEnd"}, {name: "Begin"}}, {{name: "OpEnd"}, {name: "Commit"}, {name: "Begin"}}, {{name: "OpEnd"}, {name: "Settle"}, {name: "Begin"}}, {{name: "OpAbort"}, {name: "Begin"}},
	}
	for code := range pow(len(calls), 5) {
		p := newPair(t, plan, 1, nil)
		p.follow(t, call{name: "Begin"}, code)
		for i := range 5 {
			for j, c := range calls[code/pow(len(calls), i)%len(calls)] {
				if c.name == "OpWrite" || c.name == "OpData" {
					c.data = marked(64, 10*i+j+1)
				}
				p.follow(t, c, code)
			}
			p.follow(t, call{name: "OpRead", n: b + i%4}, code)
		}
		for _, c := range []call{{name: "OpEnd"}, {name: "Read", n: b}, {name: "Read", n: b + 1}, {name: "Read", n: b + 3}} {
			p.follow(t, c, code)
		}
		p.same(t, code)
	}
}

// TestAllFuses: P11.4 to P11.6, scripts that are cut off at each of their writes and flushes leave the device, the log, the cache and the group as the model's, and answer the same behind it.
func TestAllFuses(t *testing.T) {
	for seed := range 24 {
		all := plans(t)
		for fuse := 0; ; fuse++ {
			x := dice(5000 + seed)
			p := newPair(t, all[seed%len(all)], 1+x.below(4), x.picks(20))
			p.follow(t, call{name: "Fuse", n: fuse}, seed)
			for i := range 60 {
				c := x.nextCall(p.m.p, 100+i)
				if c.name == "Fuse" || c.name == "Crash" {
					c = call{name: "OpEnd"}
				}
				p.follow(t, c, []int{seed, fuse, i})
			}
			p.same(t, []int{seed, fuse})
			if !p.w.d.Dead() {
				break
			}
		}
	}
}

// refuse lets a group refuse calls that may change nothing.
func (p *pair) refuse(t *testing.T) {
	t.Helper()
	plan := p.m.p
	good := marked(plan.Block, 7)
	for _, o := range []*group.Op{p.o, p.elder} {
		for _, b := range []int{-1, plan.Blocks, math.MinInt, math.MaxInt} {
			o.Read(b)
			o.Write(b, good)
			o.Data(b, good)
			o.Free(b)
		}
		o.Write(plan.IBits-1, good)
		o.Data(plan.Data-1, good)
		o.Free(plan.Data - 1)
		o.Write(plan.Data, good[1:])
		o.Data(plan.Data, append(good, 1))
		if o != nil && p.u != nil && (o != p.o || p.u.over() != api.OK) {
			want(t, "End", o.End(), api.ErrOver)
			want(t, "Abort", o.Abort(), api.ErrOver)
			want(t, "Write", o.Write(plan.Data, good), api.ErrOver)
		}
	}
	if p.m.open != nil {
		p.w.g.Begin()
		want(t, "Commit", p.w.g.Commit(), api.ErrBusy)
		want(t, "Settle", p.w.g.Settle(), api.ErrBusy)
	}
	want(t, "Out", p.w.g.Out([]int{plan.Data, plan.Blocks}), api.ErrRange)
	p.w.g.Read(-1)
	p.w.g.Read(plan.Blocks)
	group.New(p.w.d, p.w.l, nil, plan)
	group.New(p.w.d, p.w.l, p.w.c, api.Plan{})
}

// TestRefused: R6, a group that refuses calls between those of a script tells what one tells that is not asked them.
func TestRefused(t *testing.T) {
	for seed := range 60 {
		x := dice(700 + seed)
		all := plans(t)
		p := newPair(t, all[seed%len(all)], 1+x.below(6), x.picks(30))
		for i := range 150 {
			p.refuse(t)
			p.follow(t, x.nextCall(p.m.p, 100+i), []int{seed, i})
			p.refuse(t)
			p.same(t, []int{seed, i})
		}
		if t.Failed() {
			t.Fatal("seed:", seed)
		}
	}
}

// TestManyGroups: R5, groups on devices of their own, whose calls go in turns, tell what each would tell alone.
func TestManyGroups(t *testing.T) {
	x := dice(77)
	var all []*pair
	for _, p := range plans(t) {
		all = append(all, newPair(t, p, 1+x.below(6), x.picks(30)), newPair(t, p, 1+x.below(6), x.picks(30)))
	}
	for i := range 4000 {
		p := all[x.below(len(all))]
		p.follow(t, x.nextCall(p.m.p, 100+i), i)
		p.same(t, i)
	}
	for i, p := range all {
		p.same(t, i)
	}
}

// TestAgain: R5, the same calls on another group are answered in the same way, however the maps within are gone through.
func TestAgain(t *testing.T) {
	for seed := range 20 {
		var first []answer
		for round := range 5 {
			x := dice(900 + seed)
			p := newPair(t, planned(t, 64, 90, 4, 31), 3, x.picks(40))
			for i := range 200 {
				got, _ := p.run(x.nextCall(p.m.p, 100+i))
				if round == 0 {
					first = append(first, got)
				} else if got.e != first[i].e || !bytes.Equal(got.data, first[i].data) {
					t.Fatalf("seed %d, round %d, call %d: %v, was %v", seed, round, i, got, first[i])
				}
			}
		}
	}
}
