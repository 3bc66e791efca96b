package codec_test

import (
	"bytes"
	"encoding/binary"
	"hash/crc32"
	"math"
	"regexp"
	"slices"
	"strings"
	"testing"

	"skerry/api"
	"skerry/codec"
)

// far are numbers that have no room in two bytes.
var far = []int{math.MinInt, math.MinInt + 1, math.MinInt32, -65536, -256, -2, -1, 65536, 65537, 1 << 17, math.MaxInt32, math.MaxInt32 + 1, math.MaxUint32 - 1, math.MaxUint32, math.MaxUint32 + 1, math.MaxUint32 + 2, 1 << 33, math.MaxInt - 1, math.MaxInt}

var blockSizes = []int{64, 128, 256, 512, 1024, 2048, 4096}

// around are far numbers, and the ones given with those just beside them.
func around(some ...int) []int {
	list := slices.Clone(far)
	for _, n := range some {
		list = append(list, n-1, n, n+1)
	}
	slices.Sort(list)
	return slices.Compact(list)
}

// edges are numbers at the edges of one byte, of two and of four, and far beyond them.
func edges() []int {
	return around(0, 3, 255, 32767, 65535)
}

// few are some of the edges, for where two numbers take turns.
var few = []int{math.MinInt, -1, 0, 1, 65535, 65536, math.MaxUint32, math.MaxUint32 + 1, math.MaxInt}

var badBlocks = append(around(0, 64, 128, 256, 512, 1024, 2048, 4096), 1, 16, 32, 96, 192, 3072, 8192)

// wantBlock answers whether block is one of chapter 5's sizes.
func wantBlock(block int) bool {
	return slices.Contains(blockSizes, block)
}

// has answers whether all numbers have room in width bytes.
func has(width int, list ...int) bool {
	for _, v := range list {
		if v < 0 || v >= 1<<(8*width) {
			return false
		}
	}
	return true
}

func two(b []byte, list ...int) []byte {
	for _, v := range list {
		b = binary.LittleEndian.AppendUint16(b, uint16(v))
	}
	return b
}

func four(b []byte, list ...int) []byte {
	for _, v := range list {
		b = binary.LittleEndian.AppendUint32(b, uint32(v))
	}
	return b
}

func sum(b []byte) int {
	return int(crc32.ChecksumIEEE(b))
}

func padded(b []byte, n int) []byte {
	return append(b, make([]byte, n-len(b))...)
}

func allZero(b []byte) bool {
	return len(bytes.Trim(b, "\x00")) == 0
}

func two16(b []byte, at int) int {
	return int(binary.LittleEndian.Uint16(b[at:]))
}

func four32(b []byte, at int) int {
	return int(binary.LittleEndian.Uint32(b[at:]))
}

// wantPlan answers the plan of a device, its rows counted one behind the other.
func wantPlan(block, blocks, inodes, log int) (api.Plan, bool) {
	if !wantBlock(block) || blocks < 1 || blocks > 4096 || inodes < 2 || inodes > 1024 || log < 4 || log > 512 || block*blocks > 1048576 {
		return api.Plan{}, false
	}
	up := func(n, each int) int {
		return int(math.Ceil(float64(n) / float64(each)))
	}
	p := api.Plan{Block: block, Blocks: blocks, Inodes: inodes, Log: log, LogAt: 2, IBits: 2 + log}
	p.ILen, p.BLen, p.TLen = up(inodes, 8*block), up(blocks, 8*block), up(32*inodes, block)
	p.BBits = p.IBits + p.ILen
	p.Table = p.BBits + p.BLen
	p.Data = p.Table + p.TLen
	return p, p.Data < blocks
}

var nameForm = regexp.MustCompile(`\A[a-z0-9._-]{1,13}\z`)

func wantName(s string) api.Errno {
	if s == "." || s == ".." || !nameForm.MatchString(s) {
		return api.ErrName
	}
	return api.OK
}

func wantSuper(p api.Plan) ([]byte, api.Errno) {
	if q, ok := wantPlan(p.Block, p.Blocks, p.Inodes, p.Log); !ok || q != p {
		return nil, api.ErrForm
	}
	b := two([]byte("SKRY"), p.Block, p.Blocks, p.Inodes, p.Log)
	return padded(four(b, sum(b)), p.Block), api.OK
}

func wantUnsuper(b []byte) (api.Plan, api.Errno) {
	if !wantBlock(len(b)) || string(b[:4]) != "SKRY" || four32(b, 12) != sum(b[:12]) || !allZero(b[16:]) {
		return api.Plan{}, api.ErrForm
	}
	p, ok := wantPlan(two16(b, 4), two16(b, 6), two16(b, 8), two16(b, 10))
	if !ok || p.Block != len(b) {
		return api.Plan{}, api.ErrForm
	}
	return p, api.OK
}

func wantHeader(h api.Header, block int) ([]byte, api.Errno) {
	if !wantBlock(block) {
		return nil, api.ErrArg
	}
	if !has(4, h.Seq) || !has(2, h.Tail, h.Used) {
		return nil, api.ErrValue
	}
	b := two(four([]byte("SLOG"), h.Seq), h.Tail, h.Used)
	return padded(four(b, sum(b)), block), api.OK
}

func wantUnheader(b []byte) (api.Header, api.Errno) {
	if !wantBlock(len(b)) || string(b[:4]) != "SLOG" || four32(b, 12) != sum(b[:12]) || !allZero(b[16:]) {
		return api.Header{}, api.ErrForm
	}
	return api.Header{Seq: four32(b, 4), Tail: two16(b, 8), Used: two16(b, 10)}, api.OK
}

func wantDesc(seq int, list []int, block int) ([]byte, api.Errno) {
	if !wantBlock(block) {
		return nil, api.ErrArg
	}
	if !has(4, seq) || !has(2, list...) {
		return nil, api.ErrValue
	}
	if 10+2*len(list) > block {
		return nil, api.ErrLarge
	}
	rest := padded(two(two(four(nil, seq), len(list)), list...), block-4)
	return append(four(nil, sum(rest)), rest...), api.OK
}

func wantUndesc(b []byte) (int, []int, api.Errno) {
	if !wantBlock(len(b)) || four32(b, 0) != sum(b[4:]) {
		return 0, nil, api.ErrForm
	}
	end := 10 + 2*two16(b, 8)
	if end > len(b) || !allZero(b[end:]) {
		return 0, nil, api.ErrForm
	}
	var list []int
	for at := 10; at < end; at += 2 {
		list = append(list, two16(b, at))
	}
	return four32(b, 4), list, api.OK
}

func wantInode(x api.Inode) ([]byte, api.Errno) {
	others := append(x.Direct[:], x.Links, x.Single, x.Double)
	if x.Kind < 0 || x.Kind > 2 {
		return nil, api.ErrForm
	}
	if x.Kind == 0 && (x.Size != 0 || slices.ContainsFunc(others, func(n int) bool { return n != 0 })) {
		return nil, api.ErrForm
	}
	if !has(4, x.Size) || !has(2, others...) {
		return nil, api.ErrValue
	}
	b := four(two([]byte{byte(x.Kind), 0}, x.Links), x.Size)
	return padded(two(two(b, x.Direct[:]...), x.Single, x.Double), 32), api.OK
}

func wantUninode(b []byte) (api.Inode, api.Errno) {
	if len(b) != 32 || b[0] > 2 || b[1] != 0 || !allZero(b[28:]) || b[0] == 0 && !allZero(b) {
		return api.Inode{}, api.ErrForm
	}
	x := api.Inode{Kind: int(b[0]), Links: two16(b, 2), Size: four32(b, 4), Single: two16(b, 24), Double: two16(b, 26)}
	for i := range 8 {
		x.Direct[i] = two16(b, 8+2*i)
	}
	return x, api.OK
}

func wantDirent(d api.Dirent) ([]byte, api.Errno) {
	switch {
	case d.Inode == 0 && len(d.Name) > 0:
		return nil, api.ErrForm
	case d.Inode != 0 && wantName(d.Name) != api.OK:
		return nil, api.ErrName
	case !has(2, d.Inode):
		return nil, api.ErrValue
	}
	return padded(append(two(nil, d.Inode), d.Name...), 16), api.OK
}

func wantUndirent(b []byte) (api.Dirent, api.Errno) {
	if len(b) != 16 || b[15] != 0 {
		return api.Dirent{}, api.ErrForm
	}
	d := api.Dirent{Inode: two16(b, 0), Name: strings.TrimRight(string(b[2:15]), "\x00")}
	if d.Inode == 0 && d.Name != "" || d.Inode != 0 && wantName(d.Name) != api.OK {
		return api.Dirent{}, api.ErrForm
	}
	return d, api.OK
}

func frame(payload []byte) []byte {
	b := append(two(nil, len(payload)), payload...)
	return four(b, sum(b))
}

func wantRecord(r api.Record) ([]byte, api.Errno) {
	if !has(4, r.Base, r.Seq, r.Edit.At, r.Edit.N) || !has(2, r.Seal[:]...) {
		return nil, api.ErrValue
	}
	if len(r.Edit.Text) > 65535-24 {
		return nil, api.ErrLarge
	}
	b := two(four(nil, r.Base, r.Seq, r.Edit.At, r.Edit.N), r.Seal[:]...)
	return frame(append(b, r.Edit.Text...)), api.OK
}

func wantUnrecord(b []byte, at int) (api.Record, int, api.Errno) {
	if at < 0 || at > len(b) {
		return api.Record{}, 0, api.ErrRange
	}
	b = b[at:]
	if len(b) < 2 || len(b) < 6+two16(b, 0) {
		return api.Record{}, 0, api.ErrShort
	}
	n := two16(b, 0)
	if four32(b, 2+n) != sum(b[:2+n]) {
		return api.Record{}, 0, api.ErrCheck
	}
	if n < 24 {
		return api.Record{}, 0, api.ErrForm
	}
	r := api.Record{Base: four32(b, 2), Seq: four32(b, 6), Seal: [4]int{two16(b, 18), two16(b, 20), two16(b, 22), two16(b, 24)}}
	r.Edit = api.Edit{At: four32(b, 10), N: four32(b, 14), Text: string(b[26 : 2+n])}
	return r, at + 6 + n, api.OK
}

// checkBytes holds what was written against what is to be, an error's nothing too.
func checkBytes(t *testing.T, got []byte, e api.Errno, want []byte, f api.Errno, call string, from ...any) {
	t.Helper()
	if !bytes.Equal(got, want) || e != f {
		t.Fatalf("%s(%+v): %d %d, not %d %d", call, from, got, e, want, f)
	}
}

func checkSuper(t *testing.T, p api.Plan) {
	t.Helper()
	got, e := codec.Super(p)
	want, f := wantSuper(p)
	checkBytes(t, got, e, want, f, "Super", p)
}

func checkHeader(t *testing.T, h api.Header, block int) {
	t.Helper()
	got, e := codec.Header(h, block)
	want, f := wantHeader(h, block)
	checkBytes(t, got, e, want, f, "Header", h, block)
}

func checkDesc(t *testing.T, seq int, list []int, block int) {
	t.Helper()
	got, e := codec.Desc(seq, list, block)
	want, f := wantDesc(seq, list, block)
	checkBytes(t, got, e, want, f, "Desc", seq, len(list), block)
}

func checkInode(t *testing.T, x api.Inode) {
	t.Helper()
	got, e := codec.Inode(x)
	want, f := wantInode(x)
	checkBytes(t, got, e, want, f, "Inode", x)
}

func checkDirent(t *testing.T, d api.Dirent) {
	t.Helper()
	got, e := codec.Dirent(d)
	want, f := wantDirent(d)
	checkBytes(t, got, e, want, f, "Dirent", d)
}

func checkRecord(t *testing.T, r api.Record) {
	t.Helper()
	got, e := codec.Record(r)
	want, f := wantRecord(r)
	if !bytes.Equal(got, want) || e != f {
		n := len(r.Edit.Text)
		r.Edit.Text = ""
		t.Fatalf("Record(%+v with %d bytes): %d bytes %d, not %d bytes %d", r, n, len(got), e, len(want), f)
	}
}

// checkReads holds what is read of b by each call of P6.3 against what is to be.
func checkReads(t *testing.T, b []byte) {
	t.Helper()
	checkUnsuper(t, b)
	checkUnheader(t, b)
	checkUndesc(t, b)
	checkUninode(t, b)
	checkUndirent(t, b)
}

func checkUnsuper(t *testing.T, b []byte) {
	t.Helper()
	p, e := codec.Unsuper(b)
	if want, f := wantUnsuper(b); p != want || e != f {
		t.Fatalf("Unsuper(%d): %+v %d, not %+v %d", b, p, e, want, f)
	}
}

func checkUnheader(t *testing.T, b []byte) {
	t.Helper()
	h, e := codec.Unheader(b)
	if want, f := wantUnheader(b); h != want || e != f {
		t.Fatalf("Unheader(%d): %+v %d, not %+v %d", b, h, e, want, f)
	}
}

func checkUndesc(t *testing.T, b []byte) {
	t.Helper()
	seq, list, e := codec.Undesc(b)
	if n, want, f := wantUndesc(b); seq != n || !slices.Equal(list, want) || e != f {
		t.Fatalf("Undesc(%d): %d %d %d, not %d %d %d", b, seq, list, e, n, want, f)
	}
}

func checkUninode(t *testing.T, b []byte) {
	t.Helper()
	x, e := codec.Uninode(b)
	if want, f := wantUninode(b); x != want || e != f {
		t.Fatalf("Uninode(%d): %+v %d, not %+v %d", b, x, e, want, f)
	}
}

func checkUndirent(t *testing.T, b []byte) {
	t.Helper()
	d, e := codec.Undirent(b)
	if want, f := wantUndirent(b); d != want || e != f {
		t.Fatalf("Undirent(%d): %+v %d, not %+v %d", b, d, e, want, f)
	}
}

func checkUnrecord(t *testing.T, b []byte, at int) {
	t.Helper()
	r, next, e := codec.Unrecord(b, at)
	if want, n, f := wantUnrecord(b, at); r != want || next != n || e != f {
		t.Fatalf("Unrecord of %d bytes at %d: %d %d, not %d %d", len(b), at, next, e, n, f)
	}
}

// mixed answers n bytes of which hardly any two neighbours are alike.
func mixed(n int) []byte {
	b := make([]byte, n)
	x := uint32(n) + 1
	for i := range b {
		x = x*1664525 + 1013904223
		b[i] = byte(x >> 24)
	}
	return b
}

// counting answers n numbers, all different, from the greatest that has room downwards.
func counting(n int) []int {
	list := make([]int, n)
	for i := range list {
		list[i] = 65535 - i%65536
	}
	return list
}

// must answers what was written, for tests of what is read from it.
func must(t *testing.T) func(b []byte, e api.Errno) []byte {
	return func(b []byte, e api.Errno) []byte {
		t.Helper()
		if e != api.OK {
			t.Fatal("not written:", e)
		}
		return b
	}
}

func plans(t *testing.T) []api.Plan {
	t.Helper()
	var list []api.Plan
	for _, block := range blockSizes {
		for _, r := range [][3]int{{10, 2, 4}, {256, 131, 40}, {min(1048576/block, 4096), 2, 4}, {min(1048576/block, 4096), 1024, 100}} {
			if p, ok := wantPlan(block, r[0], r[1], r[2]); ok {
				list = append(list, p)
			}
		}
	}
	p, ok := wantPlan(64, 4096, 1024, 512)
	if !ok || len(list) < 20 {
		t.Fatal("plans:", len(list))
	}
	return append(list, p)
}

func headers() []api.Header {
	return []api.Header{{}, {Seq: 9, Tail: 1, Used: 2}, {Seq: 0x01020304, Tail: 0x0506, Used: 0x0708}, {Seq: math.MaxUint32, Tail: 65535, Used: 65535}, {Seq: math.MaxInt32 + 1}, {Tail: 256}, {Used: 511}}
}

// lists are lists that a descriptor of that block has room for.
func lists(block int) [][]int {
	most := (block - 10) / 2
	return [][]int{nil, {}, {0}, {0, 0, 0}, {20, 21}, {65535}, {258, 1, 65535, 0, 256}, counting(most / 2), counting(most - 1), counting(most), make([]int, most)}
}

func inodes() []api.Inode {
	return []api.Inode{
		{}, {Kind: 1}, {Kind: 2}, {Kind: 1, Links: 2, Size: 300, Single: 40}, {Kind: 2, Links: 1, Size: 16, Direct: [8]int{17}},
		{Kind: 1, Links: 0x0102, Size: 0x03040506, Direct: [8]int{0x0708, 0x090A, 0x0B0C, 0x0D0E, 0x0F10, 0x1112, 0x1314, 0x1516}, Single: 0x1718, Double: 0x191A},
		{Kind: 2, Links: 65535, Size: math.MaxUint32, Direct: [8]int{65535, 65535, 65535, 65535, 65535, 65535, 65535, 65535}, Single: 65535, Double: 65535},
		{Kind: 1, Direct: [8]int{1, 2, 3, 4, 5, 6, 7, 8}}, {Kind: 2, Double: 1},
	}
}

func dirents() []api.Dirent {
	return []api.Dirent{{}, {Inode: 3, Name: "ab"}, {Inode: 1, Name: "a"}, {Inode: 65535, Name: "0123456789abc"}, {Inode: 256, Name: "..."}, {Inode: 255, Name: "a.b_c-9"}, {Inode: 513, Name: ".a"}, {Inode: 2, Name: "abcdefghijkl"}}
}

func records() []api.Record {
	return []api.Record{
		{}, {Base: 1, Seq: 2, Seal: [4]int{3, 4, 5, 6}, Edit: api.Edit{At: 7, N: 8, Text: "hi"}}, {Edit: api.Edit{Text: "\x00"}}, {Edit: api.Edit{Text: string(mixed(300))}},
		{Base: 0x01020304, Seq: 0x05060708, Seal: [4]int{0x1112, 0x1314, 0x1516, 0x1718}, Edit: api.Edit{At: 0x090A0B0C, N: 0x0D0E0F10, Text: "text"}},
		{Base: math.MaxUint32, Seq: math.MaxUint32, Seal: [4]int{65535, 65535, 65535, 65535}, Edit: api.Edit{At: math.MaxUint32, N: math.MaxUint32, Text: "\xff\xfe\x00\x00"}},
	}
}

// TestName: P6.1, by names that are written out.
func TestName(t *testing.T) {
	for _, s := range []string{"a", "z", "0", "9", "_", "-", "a.b_c-9", "...", "....", ".a", "..a", "a.", "a..", "._", "-.", ".-", "..-", "0123456789abc", ".............", "abcdefghijklm", "nopqrstuvwxyz", "-------------"} {
		if e := codec.Name(s); e != api.OK {
			t.Errorf("Name(%q): %d", s, e)
		}
	}
	for _, s := range []string{"", ".", "..", "A", "Z", "aB", "a b", " ", "a/b", "/", "a:", "`", "{", "@", "[", "a,b", "^", "\x00", "a\x00", "\x00a", "a\n", "\n", "\x7f", "\x80", "\xff", "é", "ａ", "٣", "\u2024", "0123456789abcd", "..............", "0123456789abcdef", "0123456789abC", strings.Repeat("a", 65537)} {
		if e := codec.Name(s); e != api.ErrName {
			t.Errorf("Name(%q): %d", s, e)
		}
	}
}

// TestAllNames: P6.1, each byte at each place of names of each length, and all names of one byte and of two.
func TestAllNames(t *testing.T) {
	check := func(s string) {
		if e, want := codec.Name(s), wantName(s); e != want {
			t.Fatalf("Name(%q): %d, not %d", s, e, want)
		}
	}
	check("")
	for c := range 256 {
		check(string([]byte{byte(c)}))
		for d := range 256 {
			check(string([]byte{byte(c), byte(d)}))
		}
		for n := 1; n <= 15; n++ {
			for at := range n {
				for _, of := range []byte("a.") {
					b := bytes.Repeat([]byte{of}, n)
					b[at] = byte(c)
					check(string(b))
				}
			}
		}
	}
}

// TestSuper: P6.2, by a superblock that is written out, and by plans that are not sound.
func TestSuper(t *testing.T) {
	good := api.Plan{Block: 64, Blocks: 300, Inodes: 10, Log: 8, LogAt: 2, IBits: 10, ILen: 1, BBits: 11, BLen: 1, Table: 12, TLen: 5, Data: 17}
	want := append([]byte{'S', 'K', 'R', 'Y', 64, 0, 44, 1, 10, 0, 8, 0}, make([]byte, 52)...)
	copy(want[12:], four(nil, sum(want[:12])))
	if b, e := codec.Super(good); !bytes.Equal(b, want) || e != api.OK {
		t.Error("Super:", b, e)
	}
	if p, e := codec.Unsuper(want); p != good || e != api.OK {
		t.Error("Unsuper:", p, e)
	}
	for _, twist := range []func(p *api.Plan){
		func(p *api.Plan) { *p = api.Plan{} }, func(p *api.Plan) { p.Block = 65 }, func(p *api.Plan) { p.Block = 128 }, func(p *api.Plan) { p.Blocks = 17 },
		func(p *api.Plan) { p.Inodes = 1 }, func(p *api.Plan) { p.Log = 3 }, func(p *api.Plan) { p.LogAt = 3 }, func(p *api.Plan) { p.Data = 18 },
		func(p *api.Plan) { p.Blocks = -1 }, func(p *api.Plan) { p.Inodes = 65536 + 10 }, func(p *api.Plan) { p.Log = math.MinInt }, func(p *api.Plan) { p.Data = math.MaxInt },
	} {
		p := good
		twist(&p)
		if b, e := codec.Super(p); len(b) != 0 || e != api.ErrForm {
			t.Error("Super:", p, b, e)
		}
	}
}

// TestAllSupers: P6.2 and R1, plans of all block sizes, and the same with one number, whichever, at its edges.
func TestAllSupers(t *testing.T) {
	for _, p := range plans(t) {
		checkSuper(t, p)
		b := must(t)(codec.Super(p))
		if q, e := codec.Unsuper(b); q != p || e != api.OK {
			t.Fatal("Unsuper:", p, q, e)
		}
		fields := func(p *api.Plan) []*int {
			return []*int{&p.Block, &p.Blocks, &p.Inodes, &p.Log, &p.LogAt, &p.IBits, &p.ILen, &p.BBits, &p.BLen, &p.Table, &p.TLen, &p.Data}
		}
		for i, f := range fields(&p) {
			for _, n := range append(around(0, *f, 64, 4096), *f+65536, -*f) {
				q := p
				*fields(&q)[i] = n
				checkSuper(t, q)
			}
		}
	}
}

// TestHeader: P6.2, by a header that is written out, and by errors, several at one time too.
func TestHeader(t *testing.T) {
	want := append([]byte{'S', 'L', 'O', 'G', 4, 3, 2, 1, 6, 5, 8, 7}, make([]byte, 52)...)
	copy(want[12:], four(nil, sum(want[:12])))
	if b, e := codec.Header(api.Header{Seq: 0x01020304, Tail: 0x0506, Used: 0x0708}, 64); !bytes.Equal(b, want) || e != api.OK {
		t.Error("Header:", b, e)
	}
	for _, r := range []struct {
		h     api.Header
		block int
		e     api.Errno
	}{
		{api.Header{}, 64, api.OK}, {api.Header{}, 4096, api.OK}, {api.Header{}, 0, api.ErrArg}, {api.Header{}, 65, api.ErrArg}, {api.Header{}, 8192, api.ErrArg}, {api.Header{}, 32, api.ErrArg}, {api.Header{}, -64, api.ErrArg},
		{api.Header{Seq: -1}, 65, api.ErrArg}, {api.Header{Tail: 65536}, math.MaxInt, api.ErrArg}, {api.Header{Used: -1}, math.MinInt, api.ErrArg},
		{api.Header{Seq: math.MaxUint32, Tail: 65535, Used: 65535}, 128, api.OK}, {api.Header{Seq: math.MaxUint32 + 1}, 64, api.ErrValue}, {api.Header{Seq: -1}, 64, api.ErrValue}, {api.Header{Tail: 65536}, 64, api.ErrValue}, {api.Header{Tail: -1}, 64, api.ErrValue}, {api.Header{Used: 65536}, 64, api.ErrValue}, {api.Header{Used: -1}, 64, api.ErrValue}, {api.Header{Seq: math.MinInt, Tail: math.MinInt, Used: math.MaxInt}, 64, api.ErrValue},
	} {
		if b, e := codec.Header(r.h, r.block); e != r.e || e != api.OK && len(b) != 0 || e == api.OK && len(b) != r.block {
			t.Errorf("Header(%+v): %d %d", r, b, e)
		}
	}
}

// TestAllHeaders: P6.2 and R1, all numbers at their edges, in all blocks and in what is none.
func TestAllHeaders(t *testing.T) {
	for _, seq := range edges() {
		for _, n := range edges() {
			checkHeader(t, api.Header{Seq: seq, Tail: n}, 64)
			checkHeader(t, api.Header{Seq: seq, Used: n}, 128)
			checkHeader(t, api.Header{Tail: seq, Used: n}, 4096)
		}
	}
	for _, block := range badBlocks {
		for _, h := range append(headers(), api.Header{Seq: -1}, api.Header{Tail: 65536}, api.Header{Used: math.MaxInt}) {
			checkHeader(t, h, block)
		}
	}
}

// TestDesc: P6.2, by descriptors that are written out, and by errors, several at one time too.
func TestDesc(t *testing.T) {
	want := append([]byte{0, 0, 0, 0, 7, 0, 0, 0, 2, 0, 20, 0, 21, 0}, make([]byte, 50)...)
	copy(want, four(nil, sum(want[4:])))
	if b, e := codec.Desc(7, []int{20, 21}, 64); !bytes.Equal(b, want) || e != api.OK {
		t.Error("Desc:", b, e)
	}
	bad := append(counting(28), -1)
	for _, r := range []struct {
		seq   int
		list  []int
		block int
		e     api.Errno
	}{
		{0, nil, 64, api.OK}, {0, []int{}, 64, api.OK}, {math.MaxUint32, []int{65535, 0}, 64, api.OK}, {0, counting(27), 64, api.OK}, {0, counting(28), 64, api.ErrLarge}, {0, make([]int, 28), 64, api.ErrLarge}, {0, counting(28), 128, api.OK},
		{0, counting(59), 128, api.OK}, {0, counting(60), 128, api.ErrLarge}, {0, counting(123), 256, api.OK}, {0, counting(124), 256, api.ErrLarge}, {0, counting(2043), 4096, api.OK}, {0, counting(2044), 4096, api.ErrLarge},
		{0, counting(65535), 4096, api.ErrLarge}, {0, counting(65536), 4096, api.ErrLarge}, {0, counting(65537), 64, api.ErrLarge}, {0, make([]int, 1<<20), 64, api.ErrLarge},
		{-1, nil, 64, api.ErrValue}, {math.MaxUint32 + 1, nil, 64, api.ErrValue}, {0, []int{-1}, 64, api.ErrValue}, {0, []int{65536}, 64, api.ErrValue}, {0, []int{1, 2, math.MinInt}, 64, api.ErrValue}, {0, []int{math.MaxInt, 1}, 64, api.ErrValue},
		{0, bad, 64, api.ErrValue}, {-1, counting(28), 64, api.ErrValue}, {math.MaxInt, counting(65536), 64, api.ErrValue},
		{0, nil, 65, api.ErrArg}, {0, nil, 0, api.ErrArg}, {0, nil, -64, api.ErrArg}, {0, nil, 32, api.ErrArg}, {0, nil, 8192, api.ErrArg}, {-1, nil, 63, api.ErrArg}, {0, bad, 65, api.ErrArg}, {0, counting(28), 60, api.ErrArg}, {-1, bad, math.MinInt, api.ErrArg}, {-1, bad, math.MaxInt, api.ErrArg},
	} {
		if b, e := codec.Desc(r.seq, r.list, r.block); e != r.e || e != api.OK && len(b) != 0 || e == api.OK && len(b) != r.block {
			t.Errorf("Desc(%d, %d numbers, %d): %d %d", r.seq, len(r.list), r.block, b, e)
		}
	}
}

// TestAllDescs: P6.2 and R1, all numbers at their edges, lists of all lengths in all blocks, and blocks that are none.
func TestAllDescs(t *testing.T) {
	for _, seq := range edges() {
		checkDesc(t, seq, nil, 64)
		for _, n := range edges() {
			checkDesc(t, seq, []int{n}, 64)
			checkDesc(t, 5, []int{n, 7, seq}, 128)
		}
	}
	for _, block := range blockSizes {
		most := (block - 10) / 2
		for n := 0; n <= most+3; n += 1 + n/40*min(40, max(1, most-1-n)) {
			checkDesc(t, n, counting(n), block)
		}
		for n := most - 2; n <= most+3; n++ {
			checkDesc(t, n, counting(n), block)
			checkDesc(t, n, append(counting(n), 65536), block)
			checkDesc(t, -1, counting(n), block)
		}
		// The bad number of a list may stand anywhere.
		for at := range most {
			if at < 30 || at > most-5 {
				list := counting(most)
				list[at] = -1
				checkDesc(t, 1, list, block)
			}
		}
	}
	for _, block := range badBlocks {
		for _, list := range [][]int{nil, {1, 2}, {-1}, {65536}, counting(28), counting(65536)} {
			checkDesc(t, 3, list, block)
			checkDesc(t, -3, list, block)
		}
	}
}

// TestInode: P6.2, by an inode that is written out, and by errors, several at one time too.
func TestInode(t *testing.T) {
	want := []byte{1, 0, 2, 1, 6, 5, 4, 3, 8, 7, 10, 9, 12, 11, 14, 13, 16, 15, 18, 17, 20, 19, 22, 21, 24, 23, 26, 25, 0, 0, 0, 0}
	x := api.Inode{Kind: 1, Links: 0x0102, Size: 0x03040506, Direct: [8]int{0x0708, 0x090A, 0x0B0C, 0x0D0E, 0x0F10, 0x1112, 0x1314, 0x1516}, Single: 0x1718, Double: 0x191A}
	if b, e := codec.Inode(x); !bytes.Equal(b, want) || e != api.OK {
		t.Error("Inode:", b, e)
	}
	if y, e := codec.Uninode(want); y != x || e != api.OK {
		t.Error("Uninode:", y, e)
	}
	if b, e := codec.Inode(api.Inode{}); !bytes.Equal(b, make([]byte, 32)) || e != api.OK {
		t.Error("Inode:", b, e)
	}
	for _, r := range []struct {
		x api.Inode
		e api.Errno
	}{
		{api.Inode{Kind: 1}, api.OK}, {api.Inode{Kind: 2}, api.OK}, {api.Inode{Kind: 3}, api.ErrForm}, {api.Inode{Kind: -1}, api.ErrForm}, {api.Inode{Kind: 255}, api.ErrForm}, {api.Inode{Kind: 256}, api.ErrForm}, {api.Inode{Kind: 257}, api.ErrForm}, {api.Inode{Kind: math.MinInt}, api.ErrForm}, {api.Inode{Kind: math.MaxInt}, api.ErrForm},
		{api.Inode{Links: 1}, api.ErrForm}, {api.Inode{Size: 1}, api.ErrForm}, {api.Inode{Direct: [8]int{1}}, api.ErrForm}, {api.Inode{Direct: [8]int{7: 1}}, api.ErrForm}, {api.Inode{Single: 1}, api.ErrForm}, {api.Inode{Double: 1}, api.ErrForm}, {api.Inode{Size: -1}, api.ErrForm}, {api.Inode{Links: 65536}, api.ErrForm}, {api.Inode{Direct: [8]int{3: math.MinInt}}, api.ErrForm},
		{api.Inode{Kind: 3, Size: -1}, api.ErrForm}, {api.Inode{Kind: -1, Links: 65536}, api.ErrForm},
		{api.Inode{Kind: 1, Links: 65535, Size: math.MaxUint32}, api.OK}, {api.Inode{Kind: 1, Links: 65536}, api.ErrValue}, {api.Inode{Kind: 1, Links: -1}, api.ErrValue}, {api.Inode{Kind: 2, Size: math.MaxUint32 + 1}, api.ErrValue}, {api.Inode{Kind: 2, Size: -1}, api.ErrValue}, {api.Inode{Kind: 1, Direct: [8]int{-1}}, api.ErrValue}, {api.Inode{Kind: 1, Direct: [8]int{7: 65536}}, api.ErrValue}, {api.Inode{Kind: 1, Single: 65536}, api.ErrValue}, {api.Inode{Kind: 1, Single: -1}, api.ErrValue}, {api.Inode{Kind: 1, Double: 65536}, api.ErrValue}, {api.Inode{Kind: 1, Double: -1}, api.ErrValue},
	} {
		if b, e := codec.Inode(r.x); e != r.e || e != api.OK && len(b) != 0 || e == api.OK && len(b) != 32 {
			t.Errorf("Inode(%+v): %d %d", r, b, e)
		}
	}
}

func inodeFields(x *api.Inode) []*int {
	list := []*int{&x.Kind, &x.Links, &x.Size, &x.Single, &x.Double}
	for i := range x.Direct {
		list = append(list, &x.Direct[i])
	}
	return list
}

// TestAllInodes: P6.2 and R1, each field of inodes of all kinds at its edges, and each two fields.
func TestAllInodes(t *testing.T) {
	for _, x := range append(inodes(), api.Inode{Kind: 3}, api.Inode{Kind: -1}) {
		checkInode(t, x)
		for i := range inodeFields(&x) {
			for _, n := range edges() {
				y := x
				*inodeFields(&y)[i] = n
				checkInode(t, y)
			}
			for k := range i {
				for _, n := range few {
					for _, m := range few {
						y := x
						*inodeFields(&y)[i], *inodeFields(&y)[k] = n, m
						checkInode(t, y)
					}
				}
			}
		}
	}
}

// TestDirent: P6.2, by names that are written out, and by errors, several at one time too.
func TestDirent(t *testing.T) {
	for _, r := range []struct {
		d    api.Dirent
		want string
		e    api.Errno
	}{
		{api.Dirent{}, strings.Repeat("\x00", 16), api.OK},
		{api.Dirent{Inode: 3, Name: "ab"}, "\x03\x00ab" + strings.Repeat("\x00", 12), api.OK},
		{api.Dirent{Inode: 0x0102, Name: "a"}, "\x02\x01a" + strings.Repeat("\x00", 13), api.OK},
		{api.Dirent{Inode: 65535, Name: "0123456789abc"}, "\xff\xff0123456789abc\x00", api.OK},
		{api.Dirent{Inode: 1, Name: "..."}, "\x01\x00..." + strings.Repeat("\x00", 11), api.OK},
		{api.Dirent{Inode: 0, Name: "a"}, "", api.ErrForm}, {api.Dirent{Inode: 0, Name: "."}, "", api.ErrForm}, {api.Dirent{Inode: 0, Name: "A"}, "", api.ErrForm}, {api.Dirent{Inode: 0, Name: "\x00"}, "", api.ErrForm}, {api.Dirent{Inode: 0, Name: "0123456789abcd"}, "", api.ErrForm},
		{api.Dirent{Inode: 1, Name: ""}, "", api.ErrName}, {api.Dirent{Inode: 1, Name: "."}, "", api.ErrName}, {api.Dirent{Inode: 1, Name: ".."}, "", api.ErrName}, {api.Dirent{Inode: 1, Name: "A"}, "", api.ErrName}, {api.Dirent{Inode: 1, Name: "a\x00"}, "", api.ErrName}, {api.Dirent{Inode: 1, Name: "0123456789abcd"}, "", api.ErrName}, {api.Dirent{Inode: 1, Name: strings.Repeat("a", 70000)}, "", api.ErrName},
		{api.Dirent{Inode: -1, Name: ""}, "", api.ErrName}, {api.Dirent{Inode: 65536, Name: ".."}, "", api.ErrName}, {api.Dirent{Inode: math.MinInt, Name: "A"}, "", api.ErrName}, {api.Dirent{Inode: math.MaxInt, Name: "0123456789abcd"}, "", api.ErrName},
		{api.Dirent{Inode: -1, Name: "a"}, "", api.ErrValue}, {api.Dirent{Inode: 65536, Name: "a"}, "", api.ErrValue}, {api.Dirent{Inode: math.MinInt, Name: "a"}, "", api.ErrValue}, {api.Dirent{Inode: math.MaxInt, Name: "a"}, "", api.ErrValue},
	} {
		if b, e := codec.Dirent(r.d); string(b) != r.want || e != r.e {
			t.Errorf("Dirent(%+v): %d %d", r.d, b, e)
		}
	}
}

// TestAllDirents: P6.2 and R1, names of all lengths and forms beside all edges of an inode's number.
func TestAllDirents(t *testing.T) {
	names := []string{"", ".", "..", "...", "A", "a b", "a\x00", "\x00", "\x00a", "\xff", "é"}
	for n := 1; n <= 16; n++ {
		names = append(names, strings.Repeat("a", n), strings.Repeat(".", n), strings.Repeat("z", n-1)+"Z", "\x00"+strings.Repeat("b", n))
	}
	for c := range 256 {
		names = append(names, string([]byte{byte(c)}), string([]byte{'x', byte(c), 'y'}))
	}
	for _, n := range edges() {
		for _, s := range names {
			checkDirent(t, api.Dirent{Inode: n, Name: s})
		}
	}
}

// TestRecord: P6.2, by a record that is written out, and by errors, several at one time too.
func TestRecord(t *testing.T) {
	want := []byte{26, 0, 4, 3, 2, 1, 8, 7, 6, 5, 12, 11, 10, 9, 16, 15, 14, 13, 18, 17, 20, 19, 22, 21, 24, 23, 'h', 'i'}
	want = four(want, sum(want))
	r := api.Record{Base: 0x01020304, Seq: 0x05060708, Seal: [4]int{0x1112, 0x1314, 0x1516, 0x1718}, Edit: api.Edit{At: 0x090A0B0C, N: 0x0D0E0F10, Text: "hi"}}
	if b, e := codec.Record(r); !bytes.Equal(b, want) || e != api.OK {
		t.Error("Record:", b, e)
	}
	if x, next, e := codec.Unrecord(want, 0); x != r || next != 32 || e != api.OK {
		t.Error("Unrecord:", x, next, e)
	}
	text := func(n int) api.Edit { return api.Edit{Text: string(mixed(n))} }
	for _, r := range []struct {
		r api.Record
		n int
		e api.Errno
	}{
		{api.Record{}, 30, api.OK}, {api.Record{Edit: text(1)}, 31, api.OK}, {api.Record{Edit: text(65510)}, 65540, api.OK}, {api.Record{Edit: text(65511)}, 65541, api.OK}, {api.Record{Edit: text(65512)}, 0, api.ErrLarge}, {api.Record{Edit: text(65535)}, 0, api.ErrLarge}, {api.Record{Edit: text(65536)}, 0, api.ErrLarge}, {api.Record{Edit: text(1 << 20)}, 0, api.ErrLarge},
		{api.Record{Base: -1}, 0, api.ErrValue}, {api.Record{Seq: -1}, 0, api.ErrValue}, {api.Record{Edit: api.Edit{At: -1}}, 0, api.ErrValue}, {api.Record{Edit: api.Edit{N: -1}}, 0, api.ErrValue}, {api.Record{Seal: [4]int{-1}}, 0, api.ErrValue}, {api.Record{Seal: [4]int{3: -1}}, 0, api.ErrValue},
		{api.Record{Base: math.MaxUint32 + 1}, 0, api.ErrValue}, {api.Record{Seq: math.MaxUint32 + 1}, 0, api.ErrValue}, {api.Record{Edit: api.Edit{At: math.MaxUint32 + 1}}, 0, api.ErrValue}, {api.Record{Edit: api.Edit{N: math.MaxUint32 + 1}}, 0, api.ErrValue}, {api.Record{Seal: [4]int{65536}}, 0, api.ErrValue}, {api.Record{Seal: [4]int{3: 65536}}, 0, api.ErrValue},
		{api.Record{Base: -1, Edit: text(65512)}, 0, api.ErrValue}, {api.Record{Seal: [4]int{1: 65536}, Edit: text(70000)}, 0, api.ErrValue},
	} {
		if b, e := codec.Record(r.r); e != r.e || len(b) != r.n {
			t.Error("Record:", r.r.Base, r.r.Seq, r.r.Seal, r.r.Edit.At, r.r.Edit.N, len(r.r.Edit.Text), len(b), e)
		}
	}
}

func recordFields(r *api.Record) []*int {
	return []*int{&r.Base, &r.Seq, &r.Edit.At, &r.Edit.N, &r.Seal[0], &r.Seal[1], &r.Seal[2], &r.Seal[3]}
}

// TestAllRecords: P6.2 and R1, each number of records at its edges, each two numbers, and texts of many lengths.
func TestAllRecords(t *testing.T) {
	for _, r := range records() {
		checkRecord(t, r)
		for i := range recordFields(&r) {
			for _, n := range edges() {
				s := r
				*recordFields(&s)[i] = n
				checkRecord(t, s)
			}
			for k := range i {
				for _, n := range few {
					for _, m := range few {
						s := r
						*recordFields(&s)[i], *recordFields(&s)[k] = n, m
						checkRecord(t, s)
					}
				}
			}
		}
	}
	for _, n := range []int{0, 1, 2, 3, 4, 23, 24, 25, 231, 232, 233, 255, 256, 257, 4096, 65510, 65511, 65512, 65513, 65535, 65536, 65537} {
		r := api.Record{Base: 1, Edit: api.Edit{At: n, Text: string(mixed(n))}}
		checkRecord(t, r)
		r.Seal[2] = 65536
		checkRecord(t, r)
	}
}

// TestWrittenIsRead: P6.3 and P6.4, what is written is read again as it was.
func TestWrittenIsRead(t *testing.T) {
	for _, block := range blockSizes {
		for _, h := range headers() {
			if x, e := codec.Unheader(must(t)(codec.Header(h, block))); x != h || e != api.OK {
				t.Error("Unheader:", h, block, x, e)
			}
		}
		for _, list := range lists(block) {
			for _, n := range []int{0, 1, 65536, math.MaxUint32} {
				if seq, l, e := codec.Undesc(must(t)(codec.Desc(n, list, block))); seq != n || !slices.Equal(l, list) || e != api.OK {
					t.Error("Undesc:", n, len(list), block, seq, l, e)
				}
			}
		}
	}
	for _, x := range inodes() {
		if y, e := codec.Uninode(must(t)(codec.Inode(x))); y != x || e != api.OK {
			t.Error("Uninode:", x, y, e)
		}
	}
	for _, d := range dirents() {
		if f, e := codec.Undirent(must(t)(codec.Dirent(d))); f != d || e != api.OK {
			t.Error("Undirent:", d, f, e)
		}
	}
	for _, r := range records() {
		b := must(t)(codec.Record(r))
		if s, next, e := codec.Unrecord(b, 0); s != r || next != len(b) || e != api.OK {
			t.Error("Unrecord:", r, s, next, e)
		}
	}
}

// TestReadRefused: P6.3, by bytes that are written out.
func TestReadRefused(t *testing.T) {
	for _, r := range []struct {
		b string
		d api.Dirent
		e api.Errno
	}{
		{strings.Repeat("\x00", 16), api.Dirent{}, api.OK},
		{"\x03\x00ab" + strings.Repeat("\x00", 12), api.Dirent{Inode: 3, Name: "ab"}, api.OK},
		{"\x03\x000123456789abc\x00", api.Dirent{Inode: 3, Name: "0123456789abc"}, api.OK},
		{"\x00\x00ab" + strings.Repeat("\x00", 12), api.Dirent{}, api.ErrForm},
		{"\x03\x00" + strings.Repeat("\x00", 14), api.Dirent{}, api.ErrForm},
		{"\x03\x00a\x00b" + strings.Repeat("\x00", 11), api.Dirent{}, api.ErrForm},
		{"\x03\x00\x00b" + strings.Repeat("\x00", 12), api.Dirent{}, api.ErrForm},
		{"\x00\x00\x00b" + strings.Repeat("\x00", 12), api.Dirent{}, api.ErrForm},
		{"\x03\x00a" + strings.Repeat("\x00", 11) + "b\x00", api.Dirent{}, api.ErrForm},
		{"\x03\x00a" + strings.Repeat("\x00", 12) + "b", api.Dirent{}, api.ErrForm},
		{"\x03\x000123456789abcd", api.Dirent{}, api.ErrForm},
		{strings.Repeat("\x00", 15) + "a", api.Dirent{}, api.ErrForm},
		{"\x03\x00.." + strings.Repeat("\x00", 12), api.Dirent{}, api.ErrForm},
		{"\x03\x00A" + strings.Repeat("\x00", 13), api.Dirent{}, api.ErrForm},
		{"\x03\x00ab" + strings.Repeat("\x00", 11), api.Dirent{}, api.ErrForm},
		{"\x03\x00ab" + strings.Repeat("\x00", 13), api.Dirent{}, api.ErrForm},
		{"", api.Dirent{}, api.ErrForm},
	} {
		if d, e := codec.Undirent([]byte(r.b)); d != r.d || e != r.e {
			t.Errorf("Undirent(%q): %+v %d", r.b, d, e)
		}
	}
	for at, c := range map[int]byte{0: 0, 1: 1, 28: 1, 29: 1, 30: 1, 31: 1} {
		b := must(t)(codec.Inode(api.Inode{Kind: 1, Links: 1}))
		b[at] = c
		if x, e := codec.Uninode(b); x != (api.Inode{}) || e != api.ErrForm {
			t.Error("Uninode:", b, x, e)
		}
	}
}

// TestLengths: P6.3 and P6.4, bytes of each length beside the right one, of written things and of others.
func TestLengths(t *testing.T) {
	checkReads(t, nil)
	var long [][]byte
	for _, b := range [][]byte{
		nil, must(t)(codec.Super(plans(t)[0])), must(t)(codec.Header(api.Header{Seq: 9}, 64)), must(t)(codec.Desc(7, counting(27), 64)), must(t)(codec.Desc(7, nil, 64)),
		must(t)(codec.Inode(inodes()[5])), must(t)(codec.Dirent(dirents()[3])), must(t)(codec.Dirent(dirents()[1])), must(t)(codec.Record(records()[1])),
	} {
		long = append(long, append(b, make([]byte, 300)...), append(b, mixed(300)...))
	}
	for _, b := range long {
		for n := range len(b) + 1 {
			checkReads(t, b[:n])
			checkUnrecord(t, b[:n], 0)
		}
	}
	for _, n := range around(append(blockSizes, 8192, 65536)...) {
		if n >= 0 && n <= 1<<17 {
			checkReads(t, make([]byte, n))
			checkReads(t, mixed(n))
		}
	}
	// What is right in a block of one size, its sum too, is not in one of another size but the header.
	for _, from := range blockSizes {
		for _, to := range blockSizes {
			if from < to {
				h := must(t)(codec.Header(api.Header{Seq: 9, Tail: 1, Used: 2}, from))
				if x, e := codec.Unheader(padded(h, to)); x != (api.Header{Seq: 9, Tail: 1, Used: 2}) || e != api.OK {
					t.Error("Unheader:", from, to, x, e)
				}
				checkReads(t, padded(must(t)(codec.Desc(7, counting(27), from)), to))
			}
		}
	}
}

// turned calls check for b with each byte turned in several ways, all of them if b is short.
func turned(b []byte, check func(b []byte)) {
	for at := range b {
		for turn := 1; turn < 256; turn++ {
			if len(b) > 128 && turn&(turn-1) != 0 && turn != 255 {
				continue
			}
			other := bytes.Clone(b)
			other[at] ^= byte(turn)
			check(other)
		}
	}
}

// TestTurned: P6.3, nothing is read of a block of which a byte is turned, whichever; of an inode and of a name just what would be written so.
func TestTurned(t *testing.T) {
	for _, p := range plans(t) {
		if p.Block <= 256 {
			turned(must(t)(codec.Super(p)), func(b []byte) {
				if q, e := codec.Unsuper(b); q != (api.Plan{}) || e != api.ErrForm {
					t.Fatal("Unsuper:", p, b, q, e)
				}
			})
		}
	}
	for _, block := range []int{64, 256} {
		for _, h := range headers() {
			turned(must(t)(codec.Header(h, block)), func(b []byte) {
				if x, e := codec.Unheader(b); x != (api.Header{}) || e != api.ErrForm {
					t.Fatal("Unheader:", h, b, x, e)
				}
			})
		}
		for _, list := range lists(block) {
			turned(must(t)(codec.Desc(7, list, block)), func(b []byte) {
				if seq, l, e := codec.Undesc(b); seq != 0 || len(l) != 0 || e != api.ErrForm {
					t.Fatal("Undesc:", list, b, seq, l, e)
				}
			})
		}
	}
	for _, x := range inodes() {
		turned(must(t)(codec.Inode(x)), func(b []byte) { checkUninode(t, b) })
	}
	for _, d := range dirents() {
		turned(must(t)(codec.Dirent(d)), func(b []byte) { checkUndirent(t, b) })
	}
}

// TestTurnedGreat: P6.3, the same for bytes of the greatest block, some of all its parts.
func TestTurnedGreat(t *testing.T) {
	p, _ := wantPlan(4096, 256, 64, 40)
	s, h, d := must(t)(codec.Super(p)), must(t)(codec.Header(headers()[2], 4096)), must(t)(codec.Desc(7, counting(1500), 4096))
	for _, at := range []int{0, 3, 4, 5, 6, 7, 8, 9, 10, 11, 12, 15, 16, 17, 64, 100, 1000, 3008, 3009, 3010, 3011, 4094, 4095} {
		for _, b := range [][]byte{s, h, d} {
			other := bytes.Clone(b)
			other[at] ^= 1
			checkReads(t, other)
		}
	}
	checkReads(t, s)
	checkReads(t, h)
	checkReads(t, d)
}

// TestSummedSupers: P6.3, superblocks whose sum is right: what their numbers are is read where they are a sound plan of just that block size.
func TestSummedSupers(t *testing.T) {
	check := func(size int, numbers ...int) {
		b := two([]byte("SKRY"), numbers...)
		checkUnsuper(t, padded(four(b, sum(b)), size))
	}
	for _, block := range blockSizes {
		for _, size := range blockSizes {
			check(size, block, 100, 10, 8)
			check(size, block, 256, 131, 100)
		}
		for _, n := range append(around(0, 2, 4, 10, 17, 100, 256, 512, 1024, 4096), 4200) {
			if n >= 0 {
				check(block, block, n, 10, 8)
				check(block, block, 100, n, 8)
				check(block, block, 100, 10, n)
				check(block, n, 100, 10, 8)
			}
		}
		check(block, 0, 0, 0, 0)
		check(block, 65535, 65535, 65535, 65535)
	}
	for _, r := range []struct {
		size    int
		numbers []int
		e       api.Errno
	}{
		{64, []int{64, 100, 10, 8}, api.OK}, {128, []int{64, 100, 10, 8}, api.ErrForm}, {64, []int{128, 100, 10, 8}, api.ErrForm}, {64, []int{64, 17, 10, 8}, api.ErrForm}, {64, []int{64, 100, 1, 8}, api.ErrForm}, {64, []int{64, 100, 10, 3}, api.ErrForm}, {64, []int{64, 4097, 10, 8}, api.ErrForm}, {4096, []int{4096, 257, 10, 8}, api.ErrForm}, {4096, []int{4096, 256, 10, 8}, api.OK},
	} {
		b := two([]byte("SKRY"), r.numbers...)
		if p, e := codec.Unsuper(padded(four(b, sum(b)), r.size)); e != r.e || e != api.OK && p != (api.Plan{}) {
			t.Error("Unsuper:", r, p, e)
		}
	}
}

// TestSummedBlocks: P6.3, blocks of which a byte is turned and the sum made right again.
func TestSummedBlocks(t *testing.T) {
	for _, head := range [][]byte{two([]byte("SKRY"), 64, 100, 10, 8), two(four([]byte("SLOG"), 9), 1, 2)} {
		turned(head, func(b []byte) {
			b = padded(four(b, sum(b)), 64)
			checkReads(t, b)
			b[16] = 1
			checkReads(t, b)
		})
	}
	for _, list := range lists(64) {
		turned(must(t)(codec.Desc(7, list, 64))[4:], func(b []byte) {
			checkUndesc(t, append(four(nil, sum(b)), b...))
		})
	}
	// Counts that the block has room for, just not, and not at all.
	for _, block := range blockSizes {
		most := (block - 10) / 2
		for _, n := range []int{0, 1, most - 1, most, most + 1, most + 2, block / 2, block, 32767, 65535} {
			for _, rest := range [][]byte{make([]byte, block-10), mixed(block - 10), bytes.Repeat([]byte{255}, block-10), padded(two(nil, 20, 21), block-10)} {
				b := append(two(four(nil, 7), n), rest...)
				checkUndesc(t, append(four(nil, sum(b)), b...))
			}
		}
		if seq, list, e := codec.Undesc(bytes.Repeat([]byte{255}, block)); seq != 0 || list != nil || e != api.ErrForm {
			t.Error("Undesc:", seq, list, e)
		}
	}
}

// TestAnyBytes: P6.3, P6.4 and R1, inodes and names of which two bytes are any, and bytes of no form at all.
func TestAnyBytes(t *testing.T) {
	some := []byte{0, 1, 2, 3, '-', '.', '/', '0', '9', 'A', 'Z', '_', 'a', 'z', '{', 127, 128, 255}
	for _, base := range [][]byte{make([]byte, 32), must(t)(codec.Inode(inodes()[5])), make([]byte, 16), must(t)(codec.Dirent(dirents()[1])), must(t)(codec.Dirent(dirents()[3]))} {
		for i := range base {
			for k := range i {
				for _, c := range some {
					for _, d := range some {
						b := bytes.Clone(base)
						b[i], b[k] = c, d
						if len(b) == 32 {
							checkUninode(t, b)
						} else {
							checkUndirent(t, b)
						}
					}
				}
			}
		}
	}
	for n := range 300 {
		b := mixed(n)
		checkReads(t, b)
		for at := -1; at <= n+1; at++ {
			checkUnrecord(t, b, at)
		}
	}
}

// TestUnrecord: P6.4, by frames that are written out.
func TestUnrecord(t *testing.T) {
	zero := frame(make([]byte, 24))
	text := frame(append(make([]byte, 24), 'x', 0))
	for _, r := range []struct {
		b    []byte
		at   int
		text string
		next int
		e    api.Errno
	}{
		{zero, 0, "", 30, api.OK}, {frame(make([]byte, 25)), 0, "\x00", 31, api.OK}, {text, 0, "x\x00", 32, api.OK}, {frame(make([]byte, 23)), 0, "", 0, api.ErrForm}, {frame(nil), 0, "", 0, api.ErrForm}, {frame([]byte{1}), 0, "", 0, api.ErrForm},
		{zero, -1, "", 0, api.ErrRange}, {zero, 31, "", 0, api.ErrRange}, {zero, math.MinInt, "", 0, api.ErrRange}, {zero, math.MaxInt, "", 0, api.ErrRange}, {nil, 1, "", 0, api.ErrRange}, {nil, -1, "", 0, api.ErrRange},
		{nil, 0, "", 0, api.ErrShort}, {zero, 30, "", 0, api.ErrShort}, {zero, 29, "", 0, api.ErrShort}, {zero[:29], 0, "", 0, api.ErrShort}, {zero[:1], 0, "", 0, api.ErrShort}, {frame(make([]byte, 23))[:28], 0, "", 0, api.ErrShort},
		{append(make([]byte, 29), 1), 0, "", 0, api.ErrCheck}, {append(frame(make([]byte, 23))[:28], 1), 0, "", 0, api.ErrCheck}, {make([]byte, 6), 0, "", 0, api.ErrCheck},
	} {
		x, next, e := codec.Unrecord(r.b, r.at)
		if x != (api.Record{Edit: api.Edit{Text: r.text}}) || next != r.next || e != r.e {
			t.Error("Unrecord:", r, x, next, e)
		}
	}
}

// TestAllUnrecords: P6.4, payloads of all small lengths and of the greatest, frames cut short anywhere, with a byte turned anywhere, one behind the other, and at all places.
func TestAllUnrecords(t *testing.T) {
	for n := range 60 {
		f := frame(mixed(n))
		for cut := range len(f) + 1 {
			checkUnrecord(t, f[:cut], 0)
		}
		turned(f, func(b []byte) {
			checkUnrecord(t, b, 0)
			if r, next, e := codec.Unrecord(b, 0); e == api.OK || next != 0 || r != (api.Record{}) {
				t.Fatal("Unrecord of what is turned:", b, r, next, e)
			}
		})
	}
	for _, n := range []int{65534, 65535} {
		f := frame(mixed(n))
		checkUnrecord(t, f, 0)
		checkUnrecord(t, f[:len(f)-1], 0)
		if r, next, e := codec.Unrecord(f, 0); len(r.Edit.Text) != n-24 || next != n+6 || e != api.OK {
			t.Error("Unrecord:", n, len(r.Edit.Text), next, e)
		}
	}
	var all []byte
	for _, r := range records() {
		all = append(all, must(t)(codec.Record(r))...)
	}
	at := 0
	for _, want := range records() {
		r, next, e := codec.Unrecord(all, at)
		if r != want || e != api.OK {
			t.Fatal("Unrecord:", at, r, next, e)
		}
		at = next
	}
	if _, next, e := codec.Unrecord(all, at); at != len(all) || next != 0 || e != api.ErrShort {
		t.Error("Unrecord at the end:", at, next, e)
	}
	for at := -3; at <= len(all)+3; at++ {
		checkUnrecord(t, all, at)
	}
	for _, at := range append(far, len(all), len(all)+1) {
		checkUnrecord(t, all, at)
	}
}

// room is bytes with others in front of and behind them, which no call may read or change.
type room struct {
	all, b, kept []byte
}

func newRoom(b []byte, fill byte) *room {
	all := bytes.Repeat([]byte{fill}, len(b)+200)
	copy(all[100:], b)
	return &room{all: all, b: all[100 : 100+len(b)], kept: bytes.Clone(all)}
}

func (r *room) check(t *testing.T, call string) {
	t.Helper()
	if !bytes.Equal(r.all, r.kept) {
		t.Errorf("%s changed what it was handed", call)
	}
}

func turnOver[T byte | int](list []T) {
	list = list[:cap(list)]
	for i := range list {
		list[i] = ^list[i]
	}
}

// TestReadArguments: R4, what is read from is as it was, the room around it too, what stands there does not matter, and what was read stays as it is when its bytes are written over.
func TestReadArguments(t *testing.T) {
	p := plans(t)[0]
	blocks := [][]byte{must(t)(codec.Super(p)), must(t)(codec.Header(headers()[2], 64)), must(t)(codec.Desc(7, counting(27), 64)), must(t)(codec.Desc(7, []int{1, 2}, 64)), must(t)(codec.Inode(inodes()[5])), must(t)(codec.Dirent(dirents()[3])), must(t)(codec.Record(records()[4])), {}, mixed(64)}
	for _, b := range blocks {
		for n := max(0, len(b)-3); n <= len(b); n++ {
			for _, fill := range []byte{0, 1, 255} {
				r := newRoom(b[:n], fill)
				checkReads(t, r.b)
				checkUnrecord(t, r.b, 0)
				r.check(t, "a call")
			}
		}
	}
	// A frame that the room behind would make whole.
	whole := must(t)(codec.Record(records()[4]))
	if x, next, e := codec.Unrecord(whole[:len(whole)-1], 0); x != (api.Record{}) || next != 0 || e != api.ErrShort {
		t.Error("Unrecord read the room behind:", x, next, e)
	}
	if x, e := codec.Undirent(must(t)(codec.Dirent(dirents()[1]))[:15]); x != (api.Dirent{}) || e != api.ErrForm {
		t.Error("Undirent read the room behind:", x, e)
	}
	if x, e := codec.Uninode(must(t)(codec.Inode(inodes()[3]))[:31]); x != (api.Inode{}) || e != api.ErrForm {
		t.Error("Uninode read the room behind:", x, e)
	}
	d := newRoom(must(t)(codec.Dirent(dirents()[3])), 7)
	name, _ := codec.Undirent(d.b)
	rec := newRoom(whole, 7)
	record, _, _ := codec.Unrecord(rec.b, 0)
	list := newRoom(must(t)(codec.Desc(7, []int{1, 2, 3}, 64)), 7)
	_, numbers, _ := codec.Undesc(list.b)
	turnOver(d.all)
	turnOver(rec.all)
	turnOver(list.all)
	if name != dirents()[3] || record != records()[4] || !slices.Equal(numbers, []int{1, 2, 3}) {
		t.Error("what was read changed with its bytes:", name, record, numbers)
	}
}

// TestListArgument: R4, the list of a descriptor is as it was, the room around it too, what stands there does not matter, and nothing of it is kept.
func TestListArgument(t *testing.T) {
	for _, fill := range []int{0, -1, 5, math.MaxInt} {
		for _, n := range []int{0, 1, 2, 26, 27, 28} {
			all := slices.Repeat([]int{fill}, n+20)
			copy(all[10:], counting(n))
			kept := slices.Clone(all)
			checkDesc(t, 7, all[10:10+n], 64)
			b, e := codec.Desc(7, all[10:10+n], 64)
			if !slices.Equal(all, kept) {
				t.Error("Desc changed what it was handed")
			}
			was := bytes.Clone(b)
			turnOver(all)
			if !bytes.Equal(b, was) {
				t.Error("Desc: the answer changed with the argument")
			}
			turnOver(b)
			turnOver(all)
			if !slices.Equal(all, kept) {
				t.Error("Desc: the argument changed with the answer", e)
			}
		}
	}
}

// TestAnswersApart: R4 and R5, of answers of one question the later ones stay as they are when the earlier ones are written over, the room behind them too.
func TestAnswersApart(t *testing.T) {
	p, h, x, d, r := plans(t)[0], headers()[2], inodes()[5], dirents()[3], records()[4]
	for i, write := range []func() ([]byte, api.Errno){
		func() ([]byte, api.Errno) { return codec.Super(p) },
		func() ([]byte, api.Errno) { return codec.Header(h, 64) },
		func() ([]byte, api.Errno) { return codec.Header(api.Header{}, 4096) },
		func() ([]byte, api.Errno) { return codec.Desc(7, nil, 64) },
		func() ([]byte, api.Errno) { return codec.Desc(7, []int{20, 21}, 64) },
		func() ([]byte, api.Errno) { return codec.Desc(7, counting(2043), 4096) },
		func() ([]byte, api.Errno) { return codec.Inode(x) },
		func() ([]byte, api.Errno) { return codec.Inode(api.Inode{}) },
		func() ([]byte, api.Errno) { return codec.Dirent(d) },
		func() ([]byte, api.Errno) { return codec.Dirent(api.Dirent{}) },
		func() ([]byte, api.Errno) { return codec.Record(r) },
		func() ([]byte, api.Errno) { return codec.Record(api.Record{}) },
	} {
		first, second := must(t)(write()), must(t)(write())
		was := bytes.Clone(second)
		turnOver(first)
		third := must(t)(write())
		if !bytes.Equal(second, was) || !bytes.Equal(third, was) {
			t.Error("answers share memory:", i)
		}
		turnOver(third)
		if !bytes.Equal(second, was) {
			t.Error("answers share memory:", i)
		}
	}
	for _, list := range [][]int{nil, {20}, {20, 21, 22}, counting(27)} {
		b := newRoom(must(t)(codec.Desc(7, list, 64)), 9)
		_, first, _ := codec.Undesc(b.b)
		_, second, _ := codec.Undesc(b.b)
		turnOver(first)
		_, third, _ := codec.Undesc(b.b)
		if !slices.Equal(second, list) || !slices.Equal(third, list) {
			t.Error("lists share memory:", list, second, third)
		}
		turnOver(third)
		if !slices.Equal(second, list) {
			t.Error("lists share memory:", list, second)
		}
		b.check(t, "a list that was written over")
	}
}

// TestErrorsLeaveNothing: R5 and R6, calls that are refused, and calls for others, change no later answer.
func TestErrorsLeaveNothing(t *testing.T) {
	p := plans(t)[0]
	for range 3 {
		codec.Name("A")
		codec.Super(api.Plan{})
		codec.Header(api.Header{Seq: -1}, 64)
		codec.Header(headers()[3], 128)
		codec.Desc(1, counting(28), 64)
		codec.Desc(1, counting(100), 512)
		codec.Inode(api.Inode{Kind: 3})
		codec.Inode(inodes()[6])
		codec.Dirent(api.Dirent{Name: "a"})
		codec.Dirent(dirents()[3])
		codec.Record(api.Record{Base: -1})
		codec.Record(records()[3])
		for _, b := range [][]byte{nil, make([]byte, 64), mixed(64), mixed(32), mixed(16)} {
			codec.Unsuper(b)
			codec.Unheader(b)
			codec.Undesc(b)
			codec.Uninode(b)
			codec.Undirent(b)
			codec.Unrecord(b, 0)
		}
		if e := codec.Name("a.b_c-9"); e != api.OK {
			t.Error("Name:", e)
		}
		checkSuper(t, p)
		checkHeader(t, headers()[2], 64)
		checkDesc(t, 7, []int{20, 21}, 64)
		checkInode(t, inodes()[5])
		checkDirent(t, dirents()[1])
		checkRecord(t, records()[1])
		checkReads(t, must(t)(codec.Super(p)))
		checkReads(t, must(t)(codec.Header(headers()[2], 64)))
		checkReads(t, must(t)(codec.Desc(7, []int{20, 21}, 64)))
		checkReads(t, must(t)(codec.Inode(inodes()[5])))
		checkReads(t, must(t)(codec.Dirent(dirents()[1])))
		checkUnrecord(t, must(t)(codec.Record(records()[1])), 0)
	}
}

// TestTogether: P6.2 and P6.3, of all bytes of right length that are read as something, just these are written from it; and no block is read as two things.
func TestTogether(t *testing.T) {
	for _, b := range [][]byte{must(t)(codec.Super(plans(t)[0])), must(t)(codec.Header(headers()[1], 64)), must(t)(codec.Desc(7, []int{20, 21}, 64))} {
		read := 0
		if p, e := codec.Unsuper(b); e == api.OK {
			read++
			if c, _ := codec.Super(p); !bytes.Equal(c, b) {
				t.Error("Super:", b, c)
			}
		}
		if h, e := codec.Unheader(b); e == api.OK {
			read++
			if c, _ := codec.Header(h, 64); !bytes.Equal(c, b) {
				t.Error("Header:", b, c)
			}
		}
		if seq, list, e := codec.Undesc(b); e == api.OK {
			read++
			if c, _ := codec.Desc(seq, list, 64); !bytes.Equal(c, b) {
				t.Error("Desc:", b, c)
			}
		}
		if read != 1 {
			t.Error("read as so many things:", read, b)
		}
	}
	// A directory's names one behind the other are read where they stand.
	var all []byte
	for _, d := range dirents() {
		all = append(all, must(t)(codec.Dirent(d))...)
	}
	for i, want := range dirents() {
		if d, e := codec.Undirent(all[16*i : 16*i+16]); d != want || e != api.OK {
			t.Error("Undirent:", i, d, e)
		}
	}
}
