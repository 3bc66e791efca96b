package need_test

import (
	"math"
	"slices"
	"testing"

	"skerry/api"
	"skerry/need"
)

// behind answers list with room behind it, and all of that memory; what stands in the room would be an error if it were read.
func behind[T any](list []T, bad T) (short, all []T) {
	all = append(slices.Clone(list), slices.Repeat([]T{bad}, 5)...)
	return all[:len(list)], all
}

// TestSumApart: R4 and R5, a list that is handed to Sum and the room behind it are not changed, the room is not read, and nothing of it is kept.
func TestSumApart(t *testing.T) {
	for _, list := range [][]complex128{nil, {}, {3 + 1i}, {3 + 1i, 10 + 2i, 5}, {top, 1}, {1, 0.5}, {complex(minusZero, 1)}} {
		want, f := need.Sum(slices.Clip(slices.Clone(list)))
		for _, bad := range []complex128{0.5, -1, top, 1 + 1i} {
			short, all := behind(list, bad)
			before := slices.Clone(all)
			if a, e := need.Sum(short); a != want || e != f {
				t.Errorf("Sum(%v) with %v behind it: %v %d, not %v %d", list, bad, a, e, want, f)
			}
			if !slices.Equal(all, before) {
				t.Errorf("Sum(%v) has written: %v, not %v", list, all, before)
			}
			for i := range all {
				all[i] = 7 + 7i
			}
			if a, e := need.Sum(slices.Clone(list)); a != want || e != f {
				t.Errorf("Sum(%v) again: %v %d, not %v %d", list, a, e, want, f)
			}
			if a, e := need.Sum(short); a != complex(float64(7*len(short)), float64(7*len(short))) || e != api.OK {
				t.Errorf("Sum of the list that was written over: %v %d", a, e)
			}
		}
	}
}

// TestTreeApart: R4 and R5, the same of both lists of Tree.
func TestTreeApart(t *testing.T) {
	p := mustMake(t, 64, 100, 10, 8)
	some := [][]int{nil, {}, {5}, {513, 0, 5}, {1, -1}, {4256, 4257}}
	for _, files := range some {
		for _, dirs := range some {
			want, f := wantTree(p, files, dirs)
			for _, bad := range []int{-1, 1, math.MaxInt} {
				short1, all1 := behind(files, bad)
				short2, all2 := behind(dirs, bad)
				before1, before2 := slices.Clone(all1), slices.Clone(all2)
				if a, e := need.Tree(p, short1, short2); a != want || e != f {
					t.Errorf("Tree(%v, %v) with %d behind them: %v %d, not %v %d", files, dirs, bad, a, e, want, f)
				}
				if !slices.Equal(all1, before1) || !slices.Equal(all2, before2) {
					t.Errorf("Tree(%v, %v) has written: %v %v", files, dirs, all1, all2)
				}
				for i := range all1 {
					all1[i] = 64
				}
				for i := range all2 {
					all2[i] = 4
				}
				if a, e := need.Tree(p, slices.Clone(files), slices.Clone(dirs)); a != want || e != f {
					t.Errorf("Tree(%v, %v) again: %v %d, not %v %d", files, dirs, a, e, want, f)
				}
				n := float64(len(short1) + len(short2))
				if a, e := need.Tree(p, short1, short2); a != complex(n, n) || e != api.OK {
					t.Errorf("Tree of lists that were written over: %v %d", a, e)
				}
			}
		}
	}
}

// TestOneMemory: R4, the lists of Tree may be the same, or parts of one.
func TestOneMemory(t *testing.T) {
	p := mustMake(t, 64, 100, 10, 8)
	all := []int{513, 5, 0, 65}
	before := slices.Clone(all)
	for _, r := range []struct {
		files, dirs []int
		want        complex128
	}{
		{all, all, 167 + 8i}, {all[:2], all[1:], 31 + 5i}, {all[1:], all[:2], 139 + 5i}, {all[:0], all[1:2], 2 + 1i},
	} {
		if a, e := need.Tree(p, r.files, r.dirs); a != r.want || e != api.OK {
			t.Errorf("Tree(%v, %v): %v %d, not %v", r.files, r.dirs, a, e, r.want)
		}
		if !slices.Equal(all, before) {
			t.Fatal("Tree has written:", all)
		}
	}
}

// TestErrorsLeaveNothing: R5 and R6, calls that are refused, and calls for other plans, change no later answer.
func TestErrorsLeaveNothing(t *testing.T) {
	p, other := mustMake(t, 64, 100, 10, 8), mustMake(t, 4096, 256, 1024, 100)
	for range 3 {
		need.Amount(-1, top+1)
		need.Parts(0.5)
		need.Fits(complex(math.NaN(), 0), 1)
		need.Sum([]complex128{top, 1})
		need.Sum([]complex128{1, 0.5})
		need.File(p, -1)
		need.File(other, 524288)
		need.Dir(p, 4257)
		need.Dir(other, 32768)
		need.Have(api.Plan{})
		need.Have(other)
		need.Tree(api.Plan{}, []int{1}, []int{1})
		need.Tree(other, []int{1, 2, -1}, []int{5})
		need.Tree(p, []int{1, 2}, []int{5, -1})
		if a, e := need.Amount(3, 1); a != 3+1i || e != api.OK {
			t.Error("Amount:", a, e)
		}
		if b, i, e := need.Parts(3 + 1i); b != 3 || i != 1 || e != api.OK {
			t.Error("Parts:", b, i, e)
		}
		if fits, e := need.Fits(3+1i, 3+2i); !fits || e != api.OK {
			t.Error("Fits:", fits, e)
		}
		if a, e := need.Sum([]complex128{1, 2 + 1i}); a != 3+1i || e != api.OK {
			t.Error("Sum:", a, e)
		}
		if a, e := need.File(p, 513); a != 10+1i || e != api.OK {
			t.Error("File:", a, e)
		}
		if a, e := need.Dir(p, 5); a != 2+1i || e != api.OK {
			t.Error("Dir:", a, e)
		}
		if a, e := need.Have(p); a != 83+9i || e != api.OK {
			t.Error("Have:", a, e)
		}
		if a, e := need.Tree(p, []int{513, 0}, []int{5}); a != 12+3i || e != api.OK {
			t.Error("Tree:", a, e)
		}
	}
}
