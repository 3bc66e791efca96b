package need_test

import (
	"math"
	"slices"
	"testing"

	"skerry/api"
	"skerry/need"
)

// top is the greatest part of a sound amount.
const top = 1 << 30

// minusZero is made by a call: a constant -0 would be 0.
var minusZero = math.Copysign(0, -1)

// far are numbers that nothing is counted by.
var far = []int{math.MinInt, math.MinInt + 1, math.MinInt/2 - 1, math.MinInt32, -1 << 30, -4096, -64, -16, -2, -1, math.MaxInt32, math.MaxUint32, math.MaxUint32 + 1, math.MaxUint32 + 2, math.MaxInt / 64, math.MaxInt/64 + 1, math.MaxInt / 16, math.MaxInt/16 + 1, math.MaxInt/2 + 1, math.MaxInt - 63, math.MaxInt - 15, math.MaxInt - 1, math.MaxInt}

// soundParts are whole numbers of which amounts are made.
var soundParts = []int{0, 1, 2, 3, 255, 4096, 1 << 20, 1<<24 - 1, 1<<24 + 1, 1 << 29, 1<<29 + 1, top - 2, top - 1, top}

// unsoundParts are no parts of amounts: below 0 and above 2^30, not whole by much and by little, and what is hardly a number.
func unsoundParts() []float64 {
	inf := math.Inf(1)
	list := []float64{
		-1, -2, -top, -top - 1, top + 1, top + 2, 2*top - 1, 2 * top, 1<<32 - 1, 1 << 32, 1<<32 + 1, 1 << 40, 1<<53 - 1, 1 << 53, 1<<53 + 2, 1 << 62, 1 << 63, 1<<63 + 1<<20, 1 << 64, 1<<64 + 1<<20, -1 << 63, -1 << 64, 1e100, -1e100, math.MaxFloat64, -math.MaxFloat64,
		0.5, -0.5, 0.25, 1.5, 2.75, 100.125, math.Pi, -math.Pi, 1<<24 + 0.5, top - 1.5, top - 0.5, top + 0.5,
		1e-9, 1 + 1e-9, 1 - 1e-9, 1e-300, -1e-300, math.SmallestNonzeroFloat64, -math.SmallestNonzeroFloat64,
		inf, -inf, math.NaN(), math.Copysign(math.NaN(), -1),
	}
	for _, n := range soundParts {
		list = append(list, math.Nextafter(float64(n), inf), math.Nextafter(float64(n), -inf))
	}
	return list
}

// amount is a number, and what its parts are, if it is sound.
type amount struct {
	a              complex128
	blocks, inodes int
	ok             bool
}

// amounts are all pairs of these parts: whole ones, -0, and those that are no parts.
func amounts(good []int, bad []float64) []amount {
	type part struct {
		x  float64
		n  int
		ok bool
	}
	all := []part{{minusZero, 0, true}}
	for _, n := range good {
		all = append(all, part{float64(n), n, true})
	}
	for _, x := range bad {
		all = append(all, part{x, 0, false})
	}
	var list []amount
	for _, r := range all {
		for _, i := range all {
			a := amount{a: complex(r.x, i.x)}
			if r.ok && i.ok {
				a.blocks, a.inodes, a.ok = r.n, i.n, true
			}
			list = append(list, a)
		}
	}
	return list
}

// wantSum goes by whole numbers alone, and looks for each error by itself.
func wantSum(list []amount) (complex128, api.Errno) {
	blocks, inodes := 0, 0
	for _, a := range list {
		if !a.ok {
			return 0, api.ErrForm
		}
		blocks += a.blocks
		inodes += a.inodes
	}
	if blocks > top || inodes > top {
		return 0, api.ErrValue
	}
	return complex(float64(blocks), float64(inodes)), api.OK
}

func numbers(list []amount) []complex128 {
	var out []complex128
	for _, a := range list {
		out = append(out, a.a)
	}
	return out
}

// TestAmount: P10.1, by amounts that are written out.
func TestAmount(t *testing.T) {
	for _, r := range []struct {
		blocks, inodes int
		want           complex128
		e              api.Errno
	}{
		{3, 1, 3 + 1i, api.OK}, {1, 3, 1 + 3i, api.OK}, {0, 0, 0, api.OK}, {1, 0, 1, api.OK}, {0, 1, 1i, api.OK}, {1, 1, 1 + 1i, api.OK}, {83, 9, 83 + 9i, api.OK},
		{16777217, 16777219, 16777217 + 16777219i, api.OK}, {1073741823, 0, 1073741823, api.OK}, {0, 1073741823, 1073741823i, api.OK},
		{1073741824, 0, 1073741824, api.OK}, {0, 1073741824, 1073741824i, api.OK}, {1073741824, 1073741824, 1073741824 + 1073741824i, api.OK}, {1073741823, 1073741824, 1073741823 + 1073741824i, api.OK},
		{1073741825, 0, 0, api.ErrValue}, {0, 1073741825, 0, api.ErrValue}, {1073741825, 1073741825, 0, api.ErrValue}, {1073741825, 1073741824, 0, api.ErrValue}, {1073741824, 1073741825, 0, api.ErrValue},
		{-1, 0, 0, api.ErrValue}, {0, -1, 0, api.ErrValue}, {-1, -1, 0, api.ErrValue}, {-1, 1073741825, 0, api.ErrValue}, {1073741825, -1, 0, api.ErrValue}, {5, -1, 0, api.ErrValue}, {-1, 5, 0, api.ErrValue},
		{math.MinInt, 0, 0, api.ErrValue}, {0, math.MinInt, 0, api.ErrValue}, {math.MaxInt, 0, 0, api.ErrValue}, {0, math.MaxInt, 0, api.ErrValue}, {math.MinInt, math.MaxInt, 0, api.ErrValue}, {math.MaxInt, math.MinInt, 0, api.ErrValue},
	} {
		if a, e := need.Amount(r.blocks, r.inodes); a != r.want || e != r.e {
			t.Errorf("Amount(%d, %d): %v %d, not %v %d", r.blocks, r.inodes, a, e, r.want, r.e)
		}
	}
}

// TestAllAmounts: P10.1 and R1, all pairs of numbers around the edges; Parts is the way back.
func TestAllAmounts(t *testing.T) {
	all := append(slices.Clone(far), soundParts...)
	all = append(all, top+1, top+2, 2*top)
	for _, blocks := range all {
		for _, inodes := range all {
			a, e := need.Amount(blocks, inodes)
			if blocks < 0 || blocks > top || inodes < 0 || inodes > top {
				if a != 0 || e != api.ErrValue {
					t.Fatalf("Amount(%d, %d): %v %d", blocks, inodes, a, e)
				}
				continue
			}
			if real(a) != float64(blocks) || imag(a) != float64(inodes) || e != api.OK {
				t.Fatalf("Amount(%d, %d): %v %d", blocks, inodes, a, e)
			}
			if b, i, e := need.Parts(a); b != blocks || i != inodes || e != api.OK {
				t.Fatalf("Parts(%v): %d %d %d", a, b, i, e)
			}
		}
	}
}

// TestParts: P10.1, by parts that are written out.
func TestParts(t *testing.T) {
	inf, nan := math.Inf(1), math.NaN()
	for _, r := range []struct {
		a              complex128
		blocks, inodes int
		e              api.Errno
	}{
		{3 + 1i, 3, 1, api.OK}, {0, 0, 0, api.OK}, {1, 1, 0, api.OK}, {1i, 0, 1, api.OK}, {complex(minusZero, minusZero), 0, 0, api.OK}, {complex(minusZero, 2), 0, 2, api.OK}, {complex(2, minusZero), 2, 0, api.OK},
		{1073741824, 1073741824, 0, api.OK}, {1073741824i, 0, 1073741824, api.OK}, {1073741824 + 1073741824i, 1073741824, 1073741824, api.OK}, {1073741823 + 16777217i, 1073741823, 16777217, api.OK},
		{1073741825, 0, 0, api.ErrForm}, {1073741825i, 0, 0, api.ErrForm}, {1073741825 + 1073741825i, 0, 0, api.ErrForm}, {1073741825 + 1i, 0, 0, api.ErrForm}, {1 + 1073741825i, 0, 0, api.ErrForm},
		{-1, 0, 0, api.ErrForm}, {-1i, 0, 0, api.ErrForm}, {-1 - 1i, 0, 0, api.ErrForm}, {3 - 1i, 0, 0, api.ErrForm}, {-3 + 1i, 0, 0, api.ErrForm},
		{0.5, 0, 0, api.ErrForm}, {0.5i, 0, 0, api.ErrForm}, {0.5 + 0.5i, 0, 0, api.ErrForm}, {3.5 + 1i, 0, 0, api.ErrForm}, {3 + 1.5i, 0, 0, api.ErrForm}, {3 + 1.0000000001i, 0, 0, api.ErrForm}, {2.9999999999 + 1i, 0, 0, api.ErrForm}, {1073741823.5 + 1i, 0, 0, api.ErrForm}, {1 + 1073741824.5i, 0, 0, api.ErrForm},
		{complex(inf, 1), 0, 0, api.ErrForm}, {complex(1, inf), 0, 0, api.ErrForm}, {complex(-inf, 1), 0, 0, api.ErrForm}, {complex(1, -inf), 0, 0, api.ErrForm}, {complex(inf, -inf), 0, 0, api.ErrForm},
		{complex(nan, 1), 0, 0, api.ErrForm}, {complex(1, nan), 0, 0, api.ErrForm}, {complex(nan, nan), 0, 0, api.ErrForm}, {complex(nan, inf), 0, 0, api.ErrForm},
		{9007199254740994, 0, 0, api.ErrForm}, {9007199254740994i, 0, 0, api.ErrForm}, {1e300 + 1e300i, 0, 0, api.ErrForm}, {-1e300, 0, 0, api.ErrForm},
	} {
		if b, i, e := need.Parts(r.a); b != r.blocks || i != r.inodes || e != r.e {
			t.Errorf("Parts(%v): %d %d %d, not %d %d %d", r.a, b, i, e, r.blocks, r.inodes, r.e)
		}
	}
}

// TestAllParts: P10.1 and R3, all pairs of parts that are sound or not.
func TestAllParts(t *testing.T) {
	for _, a := range amounts(soundParts, unsoundParts()) {
		want := api.OK
		if !a.ok {
			want = api.ErrForm
		}
		if b, i, e := need.Parts(a.a); b != a.blocks || i != a.inodes || e != want {
			t.Fatalf("Parts(%v): %d %d %d, not %d %d %d", a.a, b, i, e, a.blocks, a.inodes, want)
		}
	}
}

// TestFits: P10.1, by amounts that are written out.
func TestFits(t *testing.T) {
	nan := complex(math.NaN(), math.NaN())
	for _, r := range []struct {
		want, have complex128
		fits       bool
		e          api.Errno
	}{
		{3 + 1i, 3 + 2i, true, api.OK}, {3 + 2i, 4 + 1i, false, api.OK}, {4 + 1i, 3 + 2i, false, api.OK}, {3 + 2i, 3 + 2i, true, api.OK}, {4 + 3i, 3 + 2i, false, api.OK}, {2 + 1i, 3 + 2i, true, api.OK}, {4 + 2i, 3 + 2i, false, api.OK}, {3 + 3i, 3 + 2i, false, api.OK},
		// As many in all, or more, of one kind alone.
		{0 + 5i, 5, false, api.OK}, {5, 5i, false, api.OK}, {1i, 1000, false, api.OK}, {1, 1000i, false, api.OK},
		{0, 0, true, api.OK}, {0, 1, true, api.OK}, {0, 1i, true, api.OK}, {1, 0, false, api.OK}, {1i, 0, false, api.OK}, {0, complex(minusZero, minusZero), true, api.OK}, {complex(minusZero, minusZero), 0, true, api.OK}, {1, complex(minusZero, 1), false, api.OK},
		{1073741824 + 1073741824i, 1073741824 + 1073741824i, true, api.OK}, {1073741824 + 1073741824i, 1073741823 + 1073741824i, false, api.OK}, {1073741824 + 1073741824i, 1073741824 + 1073741823i, false, api.OK},
		// Either one is not sound, or both are not, whether it would fit or not.
		{0.5, 1, false, api.ErrForm}, {1, 0.5, false, api.ErrForm}, {0.5, 0.5, false, api.ErrForm}, {-1, 1, false, api.ErrForm}, {1, -1, false, api.ErrForm}, {1, 1073741825, false, api.ErrForm}, {1073741825, 1, false, api.ErrForm}, {1i, 1073741825i, false, api.ErrForm}, {1, complex(math.Inf(1), math.Inf(1)), false, api.ErrForm}, {complex(math.Inf(-1), 0), 1, false, api.ErrForm}, {nan, 1, false, api.ErrForm}, {1, nan, false, api.ErrForm}, {nan, nan, false, api.ErrForm}, {5 + 0.5i, 1, false, api.ErrForm}, {5, 1 + 0.5i, false, api.ErrForm},
	} {
		if fits, e := need.Fits(r.want, r.have); fits != r.fits || e != r.e {
			t.Errorf("Fits(%v, %v): %v %d, not %v %d", r.want, r.have, fits, e, r.fits, r.e)
		}
	}
}

// TestAllFits: P10.1, all pairs of amounts, sound ones and others.
func TestAllFits(t *testing.T) {
	list := amounts([]int{0, 1, 2, 7, 1<<24 + 1, top - 1, top}, []float64{-1, top + 1, 0.5, top - 0.5, 1e-300, 1 << 64, math.Inf(1), math.Inf(-1), math.NaN()})
	for _, want := range list {
		for _, have := range list {
			fits, e := need.Fits(want.a, have.a)
			if !want.ok || !have.ok {
				if fits || e != api.ErrForm {
					t.Fatalf("Fits(%v, %v): %v %d", want.a, have.a, fits, e)
				}
				continue
			}
			if fits != (want.blocks <= have.blocks && want.inodes <= have.inodes) || e != api.OK {
				t.Fatalf("Fits(%v, %v): %v %d", want.a, have.a, fits, e)
			}
		}
	}
}

// TestSum: P10.1, by sums that are written out.
func TestSum(t *testing.T) {
	inf, nan := complex(math.Inf(1), 0), complex(0, math.NaN())
	for _, r := range []struct {
		list []complex128
		want complex128
		e    api.Errno
	}{
		{nil, 0, api.OK}, {[]complex128{}, 0, api.OK}, {[]complex128{0}, 0, api.OK}, {[]complex128{3 + 1i}, 3 + 1i, api.OK}, {[]complex128{3 + 1i, 10 + 2i, 0, 1i}, 13 + 4i, api.OK}, {[]complex128{complex(minusZero, minusZero)}, 0, api.OK}, {[]complex128{complex(minusZero, 1), complex(1, minusZero)}, 1 + 1i, api.OK},
		// Just 2^30 in one part, in both, and one more.
		{[]complex128{1073741824}, 1073741824, api.OK}, {[]complex128{1073741823, 1}, 1073741824, api.OK}, {[]complex128{1073741823i, 1i}, 1073741824i, api.OK}, {[]complex128{1073741824, 1073741824i}, 1073741824 + 1073741824i, api.OK}, {[]complex128{536870912 + 536870912i, 536870912 + 536870912i, 0}, 1073741824 + 1073741824i, api.OK},
		{[]complex128{1073741824, 1}, 0, api.ErrValue}, {[]complex128{1, 1073741824}, 0, api.ErrValue}, {[]complex128{1073741824i, 1i}, 0, api.ErrValue}, {[]complex128{1073741824 + 5i, 1 + 5i}, 0, api.ErrValue}, {[]complex128{5 + 1073741824i, 5 + 1i}, 0, api.ErrValue}, {[]complex128{1073741824 + 1073741824i, 1 + 1i}, 0, api.ErrValue}, {[]complex128{536870912, 536870912, 1}, 0, api.ErrValue},
		// In fewer bits such a sum would be 0 again.
		{[]complex128{1073741824, 1073741824, 1073741824, 1073741824}, 0, api.ErrValue}, {[]complex128{1073741824i, 1073741824i, 1073741824i, 1073741824i}, 0, api.ErrValue},
		// One that is not sound, wherever it stands, ahead of the sum that is not.
		{[]complex128{0.5}, 0, api.ErrForm}, {[]complex128{0.5, 0.5}, 0, api.ErrForm}, {[]complex128{0.5i, 0.5i}, 0, api.ErrForm}, {[]complex128{2, -1}, 0, api.ErrForm}, {[]complex128{-1, 2}, 0, api.ErrForm}, {[]complex128{2i, -1i}, 0, api.ErrForm}, {[]complex128{1073741825}, 0, api.ErrForm}, {[]complex128{1073741825i}, 0, api.ErrForm}, {[]complex128{1073741825, 1}, 0, api.ErrForm},
		{[]complex128{1073741824, 1, 0.5}, 0, api.ErrForm}, {[]complex128{0.5, 1073741824, 1}, 0, api.ErrForm}, {[]complex128{1073741824, 0.5, 1}, 0, api.ErrForm}, {[]complex128{1073741824, 1, -1}, 0, api.ErrForm}, {[]complex128{1073741824i, 1i, 1, -1i}, 0, api.ErrForm}, {[]complex128{1073741824, 1073741825}, 0, api.ErrForm},
		{[]complex128{inf}, 0, api.ErrForm}, {[]complex128{inf, -inf}, 0, api.ErrForm}, {[]complex128{1, nan, 1}, 0, api.ErrForm}, {[]complex128{1073741824, 1, nan}, 0, api.ErrForm}, {[]complex128{1073741824, 1, inf}, 0, api.ErrForm}, {[]complex128{1e300, -1e300}, 0, api.ErrForm},
	} {
		if a, e := need.Sum(r.list); a != r.want || e != r.e {
			t.Errorf("Sum(%v): %v %d, not %v %d", r.list, a, e, r.want, r.e)
		}
	}
}

// TestAllSums: P10.1 and R2, all lists of up to three amounts around the edges.
func TestAllSums(t *testing.T) {
	list := amounts([]int{0, 1, 1 << 29, top - 1, top}, []float64{-1, 0.5, top + 1, math.NaN()})
	ask := func(list ...amount) {
		t.Helper()
		want, f := wantSum(list)
		if a, e := need.Sum(numbers(list)); a != want || e != f {
			t.Fatalf("Sum(%v): %v %d, not %v %d", numbers(list), a, e, want, f)
		}
	}
	for _, a := range list {
		ask(a)
		for _, b := range list {
			ask(a, b)
			for _, c := range list {
				ask(a, b, c)
			}
		}
	}
}

// TestLongSums: P10.1 and R7, lists of many amounts that are just 2^30 in one part or both, with one more, and with one that is not sound somewhere.
func TestLongSums(t *testing.T) {
	for _, n := range []int{1 << 10, 1 << 15, 1 << 20} {
		each := float64(top / n)
		for _, a := range []complex128{complex(each, 0), complex(0, each), complex(each, each), complex(each, 1), complex(1, each)} {
			list := slices.Repeat([]complex128{a}, n)
			want := complex(real(a)*float64(n), imag(a)*float64(n))
			if got, e := need.Sum(list); got != want || e != api.OK {
				t.Errorf("Sum of %d times %v: %v %d", n, a, got, e)
			}
			more := complex(0, 1)
			if real(want) == top {
				more = 1
			}
			for _, at := range []int{0, n / 2, n} {
				if got, e := need.Sum(slices.Insert(slices.Clone(list), at, more)); got != 0 || e != api.ErrValue {
					t.Errorf("Sum of %d times %v and one more at %d: %v %d", n, a, at, got, e)
				}
				if got, e := need.Sum(slices.Insert(slices.Clone(list), at, more, -more)); got != 0 || e != api.ErrForm {
					t.Errorf("Sum of %d times %v and one more and less at %d: %v %d", n, a, at, got, e)
				}
			}
		}
	}
	// Sums beyond 2^53, where a float has not room for each whole number, stay too great.
	list := slices.Repeat([]complex128{top + top*1i}, 1<<23+5)
	if a, e := need.Sum(list); a != 0 || e != api.ErrValue {
		t.Error("Sum of great ones:", a, e)
	}
	list[len(list)-1] = 1 - 1i
	if a, e := need.Sum(list); a != 0 || e != api.ErrForm {
		t.Error("Sum of great ones and one that is not sound:", a, e)
	}
}

// TestSumsOfMany: P10.1, lists of mixed amounts, some of them too great in all.
func TestSumsOfMany(t *testing.T) {
	x := uint64(1)
	next := func(n uint64) int {
		x = x*6364136223846793005 + 1442695040888963407
		return int(x >> 33 % n)
	}
	fine := 0
	for range 3000 {
		var list []amount
		for range next(40) {
			bits := next(27)
			b, i := next(1<<bits), next(1<<next(27))
			list = append(list, amount{complex(float64(b), float64(i)), b, i, true})
		}
		want, f := wantSum(list)
		if a, e := need.Sum(numbers(list)); a != want || e != f {
			t.Fatalf("Sum(%v): %v %d, not %v %d", numbers(list), a, e, want, f)
		}
		if f == api.OK {
			fine++
		}
	}
	if fine < 1000 {
		t.Error("only so many sums are sound:", fine)
	}
}

// TestNoMinusZero: no answer holds -0, even where it was handed in.
func TestNoMinusZero(t *testing.T) {
	for _, list := range [][]complex128{nil, {complex(minusZero, minusZero)}, {complex(minusZero, minusZero), complex(minusZero, minusZero)}, {complex(minusZero, 1)}, {complex(1, minusZero)}} {
		if a, _ := need.Sum(list); math.Signbit(real(a)) || math.Signbit(imag(a)) {
			t.Error("Sum:", list, a)
		}
	}
	if a, _ := need.Amount(0, 0); math.Signbit(real(a)) || math.Signbit(imag(a)) {
		t.Error("Amount:", a)
	}
}
