package turn_test

import (
	"bytes"
	"math"
	"testing"

	"skerry/api"
	"skerry/turn"
)

// top is the greatest sum of a sound spectrum.
const top = 1 << 40

// minusZero is made by a call: a constant -0 would be 0.
var minusZero = math.Copysign(0, -1)

// lengths are what n may be: how bytes may be long, and what no length is.
var lengths = []int{0, 1, 2, 3, 4, 5, 6, 7, 8, 1023, 1024, 1025, 1026, math.MaxInt32, math.MaxInt/3 - 1, math.MaxInt / 3, math.MaxInt/3 + 1, math.MaxInt/2 + 1, math.MaxInt/2 + 2, math.MaxInt - 3, math.MaxInt - 2, math.MaxInt - 1, math.MaxInt}

var notLengths = []int{-1, -2, -3, -4, -5, math.MinInt32, math.MinInt + 1, math.MinInt}

// wantPower steps from 1 on, a quarter turn at a time.
func wantPower(n int) (re, im int) {
	re, im = 1, 0
	for range (n%4 + 4) % 4 {
		re, im = -im, re
	}
	return re, im
}

// wantSpectrum goes by whole numbers alone.
func wantSpectrum(s [4]int) turn.Spectrum {
	var f turn.Spectrum
	for k := range 4 {
		a, b := 0, 0
		for r := range 4 {
			re, im := wantPower(k * r)
			a += re * s[r]
			b += im * s[r]
		}
		f[k] = complex(float64(a), float64(b))
	}
	return f
}

func wantSums(b []byte) [4]int {
	var s [4]int
	for j := range b {
		s[j%4] += int(b[j])
	}
	return s
}

// wantJoin goes by sums: what stands at r in the second stands n places further on.
func wantJoin(s, u [4]int, n int) [4]int {
	for r := range u {
		s[(r+n%4)%4] += u[r]
	}
	return s
}

func fits(s [4]int) bool {
	for _, x := range s {
		if x < 0 || x > top {
			return false
		}
	}
	return true
}

// someSums are sound ones: small ones, those at the edges, and mixed ones.
func someSums() [][4]int {
	list := [][4]int{{}, {1, 2, 3, 4}, {top, top, top, top}, {top - 1, 1, top, 0}, {0, top, 0, top}, {top, 0, top, 0}, {255, 0, 255, 0}}
	for r := range 4 {
		for _, x := range []int{1, 2, 255, 1 << 31, 1<<39 + 1, top - 1, top} {
			var s [4]int
			s[r] = x
			list = append(list, s)
		}
	}
	x := uint64(1)
	for range 40 {
		var s [4]int
		for r := range s {
			x = x*6364136223846793005 + 1442695040888963407
			s[r] = int(x >> 24)
		}
		list = append(list, s)
	}
	return list
}

// unsound are spectra that no sums have.
func unsound() []turn.Spectrum {
	inf, nan, most := math.Inf(1), math.NaN(), math.MaxFloat64
	list := []turn.Spectrum{
		// The sums would be quarters or halves.
		{1, 0, 0, 0}, {3, 0, 0, 0}, {2, 0, 0, 0}, {1, 0, 1, 0}, {5, -1 - 1i, -1, -1 + 1i},
		// They would be below 0, or above 2^40.
		wantSpectrum([4]int{0, 0, 0, -1}), wantSpectrum([4]int{-1, -2, -3, -4}),
		wantSpectrum([4]int{0, top + 1, 0, 0}), wantSpectrum([4]int{top + 1, top + 1, top + 1, top + 1}),
		wantSpectrum([4]int{2 * top, 0, 0, 0}), wantSpectrum([4]int{0, 0, 1 << 62, 0}), wantSpectrum([4]int{1 << 53, -1, 0, 0}),
		// The sums that come out are sound, but not theirs.
		{4, 3i, 4, -5i}, {10, -2 + 2i, -2, -2 + 2i}, {10, -2 - 2i, -2, -2 - 2i}, {10 + 1i, -2 - 2i, -2, -2 + 2i}, {10, -2 - 2i, -2 + 1i, -2 + 2i}, {10 + 1i, -2 - 2i, -2 - 1i, -2 + 2i}, {4i, 0, 0, 0}, {0, 0, 4i, 0},
		// Beyond every int, to both sides.
		{1e300, 1e300, 1e300, 1e300}, {-1e300, -1e300, -1e300, -1e300}, {complex(most, most), complex(most, 0), complex(most, 0), complex(most, 0)},
		{complex(nan, nan), complex(nan, nan), complex(nan, nan), complex(nan, nan)},
		{complex(inf, 0), complex(inf, 0), complex(inf, 0), complex(inf, 0)},
		{complex(-inf, -inf), complex(-inf, -inf), complex(-inf, -inf), complex(-inf, -inf)},
	}
	for _, bad := range []float64{nan, inf, -inf, 0.5, -0.25, 1.5, 3.25, 1e-9, 1e-300, math.SmallestNonzeroFloat64, 1 << 53, 1e308, -1e308} {
		for k := range 4 {
			f := wantSpectrum([4]int{1, 2, 3, 4})
			list = append(list, f, f, turn.Spectrum{}, turn.Spectrum{})
			last := list[len(list)-4:]
			last[0][k] = complex(bad, imag(f[k]))
			last[1][k] = complex(real(f[k]), bad)
			last[2][k] = complex(bad, 0)
			last[3][k] = complex(0, bad)
		}
	}
	return list
}

// TestPower: P3.1, numbers below 0 and the edges of int.
func TestPower(t *testing.T) {
	for _, r := range []struct {
		n    int
		want complex128
	}{
		{0, 1}, {1, 1i}, {2, -1}, {3, -1i}, {4, 1}, {5, 1i}, {6, -1}, {7, -1i},
		{-1, -1i}, {-2, -1}, {-3, 1i}, {-4, 1}, {-5, -1i}, {-6, -1},
		{math.MaxInt, -1i}, {math.MaxInt - 1, -1}, {math.MaxInt - 2, 1i}, {math.MaxInt - 3, 1},
		{math.MinInt, 1}, {math.MinInt + 1, 1i}, {math.MinInt + 2, -1}, {math.MinInt + 3, -1i},
		{math.MaxInt32, -1i}, {math.MinInt32, 1}, {math.MaxInt32 + 1, 1},
	} {
		if got := turn.Power(r.n); got != r.want {
			t.Errorf("Power(%d): %v, not %v", r.n, got, r.want)
		}
	}
	for n := -1000; n <= 1000; n++ {
		re, im := wantPower(n)
		if got := turn.Power(n); got != complex(float64(re), float64(im)) {
			t.Fatalf("Power(%d): %v", n, got)
		}
	}
}

// TestOf: P3.1, by spectra that are written out.
func TestOf(t *testing.T) {
	for _, r := range []struct {
		b    []byte
		want turn.Spectrum
	}{
		{nil, turn.Spectrum{}},
		{[]byte{}, turn.Spectrum{}},
		{[]byte{0, 0, 0, 0, 0}, turn.Spectrum{}},
		{[]byte{1}, turn.Spectrum{1, 1, 1, 1}},
		{[]byte{0, 1}, turn.Spectrum{1, 1i, -1, -1i}},
		{[]byte{0, 0, 1}, turn.Spectrum{1, -1, 1, -1}},
		{[]byte{0, 0, 0, 1}, turn.Spectrum{1, -1i, -1, 1i}},
		{[]byte{0, 0, 0, 0, 1}, turn.Spectrum{1, 1, 1, 1}},
		{[]byte{1, 2, 3, 4}, turn.Spectrum{10, -2 - 2i, -2, -2 + 2i}},
		{[]byte{1, 2, 3}, turn.Spectrum{6, -2 + 2i, 2, -2 - 2i}},
		{[]byte{255, 255, 255, 255}, turn.Spectrum{1020, 0, 0, 0}},
		{[]byte{255, 0, 0, 0, 255, 0, 0, 0, 255}, turn.Spectrum{765, 765, 765, 765}},
	} {
		if got := turn.Of(r.b); got != r.want {
			t.Errorf("Of(%v): %v, not %v", r.b, got, r.want)
		}
	}
}

// allOf answers all byte strings of these bytes, up to a length.
func allOf(alphabet []byte, most int) [][]byte {
	list := [][]byte{{}}
	for from, n := 0, 0; n < most; n++ {
		end := len(list)
		for _, b := range list[from:end] {
			for _, x := range alphabet {
				list = append(list, append(bytes.Clone(b), x))
			}
		}
		from = end
	}
	return list
}

// TestOfAll: P3.1, all short strings, and long ones.
func TestOfAll(t *testing.T) {
	list := allOf([]byte{0, 1, 254, 255}, 6)
	list = append(list, bytes.Repeat([]byte{255}, 1<<20+3), bytes.Repeat([]byte{0, 255, 1}, 12345))
	for _, b := range list {
		s := wantSums(b)
		f := turn.Of(b)
		if f != wantSpectrum(s) {
			t.Fatalf("Of %d bytes with sums %v: %v", len(b), s, f)
		}
		if got, e := turn.Sums(f); got != s || e != api.OK {
			t.Fatalf("Sums of the spectrum of %v: %v, %d", s, got, e)
		}
	}
}

// TestOfKeeps: R4, the bytes and the room around them stay as they are, and that room is not read.
func TestOfKeeps(t *testing.T) {
	for n := range 12 {
		var last turn.Spectrum
		for i, mark := range []byte{0xA5, 0, 0xFF} {
			all := bytes.Repeat([]byte{mark}, n+16)
			for j := range n {
				all[8+j] = byte(3*j + 1)
			}
			kept := bytes.Clone(all)
			f := turn.Of(all[8 : 8+n])
			if !bytes.Equal(all, kept) {
				t.Errorf("Of %d bytes changed what it was handed", n)
			}
			if i > 0 && f != last {
				t.Errorf("Of %d bytes hangs on what stands around them: %v, %v", n, last, f)
			}
			last = f
		}
	}
}

// TestFrom: P3.2, sums of all sizes, and the sums that come back.
func TestFrom(t *testing.T) {
	for _, s := range someSums() {
		f, e := turn.From(s)
		if f != wantSpectrum(s) || e != api.OK {
			t.Errorf("From(%v): %v, %d", s, f, e)
		}
		if got, e := turn.Sums(f); got != s || e != api.OK {
			t.Errorf("Sums of From(%v): %v, %d", s, got, e)
		}
		if e := turn.Check(f); e != api.OK {
			t.Errorf("Check of From(%v): %d", s, e)
		}
	}
	if f, e := turn.From([4]int{1, 2, 3, 4}); f != (turn.Spectrum{10, -2 - 2i, -2, -2 + 2i}) || e != api.OK {
		t.Error("From(1 2 3 4):", f, e)
	}
	if f, e := turn.From([4]int{top, top, top, top}); f != (turn.Spectrum{1 << 42, 0, 0, 0}) || e != api.OK {
		t.Error("From of the greatest sums:", f, e)
	}
}

// TestFromWrong: P3.2 and R3, sums that are none, at each of the four places.
func TestFromWrong(t *testing.T) {
	for _, bad := range []int{-1, -2, -top, math.MinInt32, math.MinInt, math.MinInt + 1, top + 1, top + 2, 2 * top, 1 << 53, 1<<53 + 1, math.MaxInt - 1, math.MaxInt} {
		for r := range 4 {
			for _, s := range [][4]int{{}, {1, 2, 3, 4}, {top, top, top, top}, {bad, bad, bad, bad}} {
				s[r] = bad
				if f, e := turn.From(s); f != (turn.Spectrum{}) || e != api.ErrValue {
					t.Errorf("From(%v): %v, %d", s, f, e)
				}
			}
		}
	}
}

// TestSoundAll: P3.2, all spectra with small parts: sound are those, and only those, that From answers.
func TestSoundAll(t *testing.T) {
	sound := map[turn.Spectrum][4]int{}
	for i := range 81 {
		s := [4]int{i % 3, i / 3 % 3, i / 9 % 3, i / 27}
		sound[wantSpectrum(s)] = s
	}
	if len(sound) != 81 {
		t.Fatal("two sums with one spectrum")
	}
	parts := []float64{-2, -1, 0, 1, 2}
	for i := range 390625 {
		var f turn.Spectrum
		for k := range f {
			f[k] = complex(parts[i%5], parts[i/5%5])
			i /= 25
		}
		want, e := sound[f], api.OK
		if _, ok := sound[f]; !ok {
			e = api.ErrForm
		}
		if got, g := turn.Sums(f); got != want || g != e {
			t.Fatalf("Sums(%v): %v, %d, not %v, %d", f, got, g, want, e)
		}
		if g := turn.Check(f); g != e {
			t.Fatalf("Check(%v): %d, not %d", f, g, e)
		}
	}
}

// TestUnsound: P3.2, P3.3 and R3, spectra of no sums; ErrForm comes ahead of ErrArg.
func TestUnsound(t *testing.T) {
	good := wantSpectrum([4]int{1, 2, 3, 4})
	none := turn.Spectrum{}
	for _, f := range unsound() {
		if s, e := turn.Sums(f); s != [4]int{} || e != api.ErrForm {
			t.Fatalf("Sums of %v: %v, %d", f, s, e)
		}
		if e := turn.Check(f); e != api.ErrForm {
			t.Fatalf("Check of %v: %d", f, e)
		}
		for _, n := range append(append([]int{}, lengths...), notLengths...) {
			if g, e := turn.Join(f, good, n); g != none || e != api.ErrForm {
				t.Fatalf("Join of %v first, %d: %v, %d", f, n, g, e)
			}
			if g, e := turn.Join(good, f, n); g != none || e != api.ErrForm {
				t.Fatalf("Join of %v last, %d: %v, %d", f, n, g, e)
			}
			if g, e := turn.Join(f, f, n); g != none || e != api.ErrForm {
				t.Fatalf("Join of %v twice, %d: %v, %d", f, n, g, e)
			}
			if g, e := turn.Shift(f, n); g != none || e != api.ErrForm {
				t.Fatalf("Shift of %v, %d: %v, %d", f, n, g, e)
			}
		}
	}
}

// TestUnsoundPairs: P3.3, two unsound ones whose join would be sound are refused.
func TestUnsoundPairs(t *testing.T) {
	for _, r := range []struct{ s, u [4]int }{
		{[4]int{-1, 0, 0, 0}, [4]int{2, 0, 0, 0}},
		{[4]int{top + 1, 0, 0, 0}, [4]int{-1, 0, 0, 0}},
		{[4]int{0, 0, 5, 0}, [4]int{0, 0, -5, 0}},
	} {
		f, g := wantSpectrum(r.s), wantSpectrum(r.u)
		for _, p := range [][2]turn.Spectrum{{f, g}, {g, f}} {
			if got, e := turn.Join(p[0], p[1], 0); got != (turn.Spectrum{}) || e != api.ErrForm {
				t.Errorf("Join of %v and %v: %v, %d", r.s, r.u, got, e)
			}
		}
	}
}

// TestMinusZero: -0 and 0 are the same in what is handed in; what is answered has no -0.
func TestMinusZero(t *testing.T) {
	var all turn.Spectrum
	for k := range all {
		all[k] = complex(minusZero, minusZero)
	}
	if s, e := turn.Sums(all); s != [4]int{} || e != api.OK || turn.Check(all) != api.OK {
		t.Error("Sums of -0:", s, e)
	}
	for _, s := range [][4]int{{}, {1}, {0, 1}, {1, 2, 3, 4}, {5, 5, 5, 5}, {0, 7, 0, 7}, {top, top, top, top}} {
		f := withMinusZeros(wantSpectrum(s))
		if got, e := turn.Sums(f); got != s || e != api.OK {
			t.Errorf("Sums of %v with -0: %v, %d", s, got, e)
		}
		if e := turn.Check(f); e != api.OK {
			t.Errorf("Check of %v with -0: %d", s, e)
		}
		made, _ := turn.From(s)
		noMinusZero(t, "From", made)
		for n := range 5 {
			g, e := turn.Shift(f, n)
			if g != wantSpectrum(wantJoin([4]int{}, s, n)) || e != api.OK {
				t.Errorf("Shift of %v with -0 by %d: %v, %d", s, n, g, e)
			}
			noMinusZero(t, "Shift", g)
			g, e = turn.Join(f, all, n)
			if g != wantSpectrum(s) || e != api.OK {
				t.Errorf("Join of %v with -0 and nothing, %d: %v, %d", s, n, g, e)
			}
			noMinusZero(t, "Join", g)
			g, e = turn.Join(all, f, n)
			if g != wantSpectrum(wantJoin([4]int{}, s, n)) || e != api.OK {
				t.Errorf("Join of nothing and %v with -0, %d: %v, %d", s, n, g, e)
			}
			noMinusZero(t, "Join", g)
		}
	}
	for _, b := range allOf([]byte{0, 1, 2}, 5) {
		noMinusZero(t, "Of", turn.Of(b))
	}
}

func withMinusZeros(f turn.Spectrum) turn.Spectrum {
	for k, c := range f {
		re, im := real(c), imag(c)
		if re == 0 {
			re = minusZero
		}
		if im == 0 {
			im = minusZero
		}
		f[k] = complex(re, im)
	}
	return f
}

func noMinusZero(t *testing.T, call string, f turn.Spectrum) {
	t.Helper()
	for _, c := range f {
		if re, im := real(c), imag(c); re == 0 && math.Signbit(re) || im == 0 && math.Signbit(im) {
			t.Errorf("%s: -0 in %v", call, f)
			return
		}
	}
}

// TestJoinShift: P3.3, by spectra that are written out.
func TestJoinShift(t *testing.T) {
	one, two := turn.Of([]byte{1}), turn.Of([]byte{2, 3})
	for _, r := range []struct {
		n    int
		want turn.Spectrum
	}{
		{0, turn.Spectrum{6, 3 + 3i, 0, 3 - 3i}},
		{1, turn.Spectrum{6, -2 + 2i, 2, -2 - 2i}},
		{2, turn.Spectrum{6, -1 - 3i, 0, -1 + 3i}},
		{3, turn.Spectrum{6, 4 - 2i, 2, 4 + 2i}},
		{4, turn.Spectrum{6, 3 + 3i, 0, 3 - 3i}},
		{math.MaxInt, turn.Spectrum{6, 4 - 2i, 2, 4 + 2i}},
	} {
		if got, e := turn.Join(one, two, r.n); got != r.want || e != api.OK {
			t.Errorf("Join of 1 and 2 3, %d: %v, %d, not %v", r.n, got, e, r.want)
		}
	}
	for _, r := range []struct {
		n    int
		want turn.Spectrum
	}{
		{0, turn.Spectrum{1, 1, 1, 1}},
		{1, turn.Spectrum{1, 1i, -1, -1i}},
		{2, turn.Spectrum{1, -1, 1, -1}},
		{3, turn.Spectrum{1, -1i, -1, 1i}},
		{4, turn.Spectrum{1, 1, 1, 1}},
		{math.MaxInt, turn.Spectrum{1, -1i, -1, 1i}},
		{math.MaxInt - 1, turn.Spectrum{1, -1, 1, -1}},
	} {
		if got, e := turn.Shift(one, r.n); got != r.want || e != api.OK {
			t.Errorf("Shift of 1 by %d: %v, %d, not %v", r.n, got, e, r.want)
		}
	}
}

// TestJoinBytes: P3.3, that of a followed by b, and that of bytes 0 followed by b, for all short strings.
func TestJoinBytes(t *testing.T) {
	list := allOf([]byte{0, 1, 255}, 5)
	for _, a := range list {
		f := turn.Of(a)
		for _, b := range list {
			got, e := turn.Join(f, turn.Of(b), len(a))
			if got != turn.Of(append(bytes.Clone(a), b...)) || e != api.OK {
				t.Fatalf("Join of those of %v and %v: %v, %d", a, b, got, e)
			}
		}
		for n := range 10 {
			got, e := turn.Shift(f, n)
			if got != turn.Of(append(make([]byte, n), a...)) || e != api.OK {
				t.Fatalf("Shift of that of %v by %d: %v, %d", a, n, got, e)
			}
		}
	}
}

// TestJoinSums: P3.3, all lengths and sums up to the greatest, sound answers and others.
func TestJoinSums(t *testing.T) {
	all, not := 0, 0
	list := someSums()
	for _, s := range list {
		f := wantSpectrum(s)
		for _, n := range lengths {
			want := wantSpectrum(wantJoin([4]int{}, s, n))
			if got, e := turn.Shift(f, n); got != want || e != api.OK {
				t.Fatalf("Shift of %v by %d: %v, %d, not %v", s, n, got, e, want)
			}
			for _, u := range list {
				want, w := wantSpectrum(wantJoin(s, u, n)), api.OK
				all++
				if !fits(wantJoin(s, u, n)) {
					want, w = turn.Spectrum{}, api.ErrValue
					not++
				}
				if got, e := turn.Join(f, wantSpectrum(u), n); got != want || e != w {
					t.Fatalf("Join of %v and %v, %d: %v, %d, not %v, %d", s, u, n, got, e, want, w)
				}
			}
		}
	}
	if not == 0 || not == all {
		t.Error("the lists have no edge between them")
	}
}

// TestJoinEdge: P3.3, a join whose answer is just sound, and one that is not.
func TestJoinEdge(t *testing.T) {
	for r := range 4 {
		for n := range 8 {
			var s, u [4]int
			s[(r+n)%4] = top - 5
			for x, w := range map[int]api.Errno{4: api.OK, 5: api.OK, 6: api.ErrValue, top: api.ErrValue} {
				u[r] = x
				want := wantSpectrum(wantJoin(s, u, n))
				if w != api.OK {
					want = turn.Spectrum{}
				}
				if got, e := turn.Join(wantSpectrum(s), wantSpectrum(u), n); got != want || e != w {
					t.Errorf("Join of %v and %v, %d: %v, %d", s, u, n, got, e)
				}
			}
		}
	}
}

// TestLengthsWrong: P3.3 and R2, a length below 0 is told ahead of an answer that would not be sound.
func TestLengthsWrong(t *testing.T) {
	for _, n := range notLengths {
		for _, s := range someSums() {
			f := wantSpectrum(s)
			if g, e := turn.Join(f, f, n); g != (turn.Spectrum{}) || e != api.ErrArg {
				t.Errorf("Join of %v twice, %d: %v, %d", s, n, g, e)
			}
			if g, e := turn.Shift(f, n); g != (turn.Spectrum{}) || e != api.ErrArg {
				t.Errorf("Shift of %v by %d: %v, %d", s, n, g, e)
			}
		}
	}
}

// TestAgain: R5, answers are the same whatever was asked, answered or written over in between.
func TestAgain(t *testing.T) {
	ask := func() [5]turn.Spectrum {
		f := turn.Of([]byte("spectrum"))
		g, _ := turn.Shift(f, 3)
		h, _ := turn.Join(f, g, 2)
		made, _ := turn.From([4]int{9, 8, 7, 6})
		return [5]turn.Spectrum{f, g, h, made, {turn.Power(1), turn.Power(2), turn.Power(3), turn.Power(4)}}
	}
	first := ask()
	for i, f := range unsound() {
		turn.Sums(f)
		turn.Join(f, first[0], i)
		turn.From([4]int{-1})
	}
	for _, f := range ask() {
		clear(f[:])
	}
	if again := ask(); again != first {
		t.Error("not the same again:", first, again)
	}
}
