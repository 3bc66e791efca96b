package piece_test

import (
	"fmt"
	"math"
	"strings"
	"testing"

	"skerry/api"
	"skerry/piece"
)

// TestNil: on a nil Doc Len, Edits and Pieces are 0, Text is empty, the others answer ErrArg, whatever they are given. So does a Doc that New has not made.
func TestNil(t *testing.T) {
	for name, d := range map[string]*piece.Doc{"nil": nil, "not made": {}} {
		for range 2 {
			if d.Len() != 0 || d.Edits() != 0 || d.Pieces() != 0 || d.Text() != "" {
				t.Errorf("%s: %d %d %d %q", name, d.Len(), d.Edits(), d.Pieces(), d.Text())
			}
			if e := d.Undo(); e != api.ErrArg {
				t.Errorf("%s: Undo is %d", name, e)
			}
			for _, at := range append([]int{0, 1}, numbers...) {
				for _, n := range append([]int{0, 1}, numbers...) {
					if s, e := d.Slice(at, n); s != "" || e != api.ErrArg {
						t.Errorf("%s: Slice(%d, %d) is %q %d", name, at, n, s, e)
					}
					for _, text := range []string{"", "a", words(most + 1)} {
						x := api.Edit{At: at, N: n, Text: text}
						if e := d.Apply(x); e != api.ErrArg {
							t.Errorf("%s: Apply(%d %d) is %d", name, at, n, e)
						}
						if y, e := d.Inverse(x); y != (api.Edit{}) || e != api.ErrArg {
							t.Errorf("%s: Inverse(%d %d) is %v %d", name, at, n, y, e)
						}
					}
				}
			}
		}
	}
}

// TestExample is that of the chapter.
func TestExample(t *testing.T) {
	d, e := piece.New("abcd")
	if e != api.OK || d.Text() != "abcd" || d.Len() != 4 || d.Edits() != 0 || d.Pieces() != 1 {
		t.Fatal("New: ", e)
	}
	x := api.Edit{At: 1, N: 2, Text: "XYZ"}
	if y, e := d.Inverse(x); y != (api.Edit{At: 1, N: 3, Text: "bc"}) || e != api.OK || d.Text() != "abcd" {
		t.Error("Inverse: ", y, e)
	}
	if e := d.Apply(x); e != api.OK || d.Text() != "aXYZd" || d.Len() != 5 || d.Edits() != 1 || d.Pieces() > 3 {
		t.Error("Apply: ", e, d.Text())
	}
	if e := d.Undo(); e != api.OK || d.Text() != "abcd" || d.Len() != 4 || d.Edits() != 0 {
		t.Error("Undo: ", e, d.Text())
	}
	if s, e := d.Slice(3, 2); s != "" || e != api.ErrRange {
		t.Error("Slice: ", s, e)
	}
	if s, e := d.Slice(3, 1); s != "d" || e != api.OK {
		t.Error("Slice: ", s, e)
	}
	if e := d.Undo(); e != api.ErrNone {
		t.Error("Undo: ", e)
	}
}

// TestNew: P20.1, texts of all lengths about the greatest, and of every byte.
func TestNew(t *testing.T) {
	if api.MaxDoc != most {
		t.Fatal("MaxDoc: ", api.MaxDoc)
	}
	for _, n := range []int{0, 1, 2, 255, most - 1, most} {
		w := begun(t, words(n))
		if w.d.Pieces() != min(n, 1) {
			t.Error("Pieces: ", w.d.Pieces())
		}
		w.undo()
		w.holds("Undo of a new document")
	}
	for _, n := range []int{most + 1, most + 2, 2 * most, 1 << 20} {
		if d, e := piece.New(words(n)); d != nil || e != api.ErrLarge {
			t.Errorf("New of %d bytes: %v %d", n, d, e)
		}
	}
}

// TestBytes: every byte may stand in a text, alone and beside any other, from New and from Apply.
func TestBytes(t *testing.T) {
	for i := range 256 {
		one := string([]byte{byte(i)})
		w := begun(t, one)
		w.apply(api.Edit{At: 1, Text: one + "\x00\n\xff"})
		w.holds("Apply")
		w.apply(api.Edit{At: 1, N: 2, Text: one})
		w.holds("Apply")
		w.back()
	}
	var b strings.Builder
	for i := range most {
		b.WriteByte(byte(i >> (i & 8)))
	}
	w := begun(t, b.String())
	for i := range most {
		if i%251 == 0 {
			w.slice("New", i, 2)
			w.slice("New", i, most-i)
		}
	}
}

// TestSlice: P20.1, each place and length of small texts in pieces of all kinds, those that are none too.
func TestSlice(t *testing.T) {
	for size := range 6 {
		for _, puts := range [][]int{{}, {0}, {size}, {size / 2}, {0, 0, size}, {0, 2, 4}, {size, 1, 2}} {
			w := begun(t, words(size))
			for i, at := range puts {
				w.apply(api.Edit{At: min(at, len(w.text())), N: 0, Text: "abcdef"[:i+1]})
			}
			w.holds("Apply")
			places := append([]int{0, 1, 2, len(w.text()), len(w.text()) + 1, len(w.text()) - 1}, numbers...)
			for _, at := range places {
				for _, n := range places {
					w.slice("Apply", at, n)
				}
			}
			w.looks("Slice")
		}
	}
}

// TestRange: P20.2 and P20.3, an edit of bytes that are not there is ErrRange, ahead of ErrLarge, and changes nothing.
func TestRange(t *testing.T) {
	for size := range 5 {
		w := begun(t, words(size))
		w.apply(api.Edit{At: size / 2, N: 0, Text: "xy"})
		size := len(w.text())
		var places []int
		for n := -2; n <= size+2; n++ {
			places = append(places, n)
		}
		places = append(places, numbers...)
		refused := 0
		for _, at := range places {
			for _, n := range places {
				for _, text := range []string{"", "z", words(most), words(most + 1)} {
					e := api.Edit{At: at, N: n, Text: text}
					if refusal(w.text(), e) == api.OK {
						continue
					}
					w.inverse(e)
					w.apply(e)
					refused++
				}
				w.looks("a refused Apply")
			}
		}
		if refused < 100 {
			t.Error("refused: ", refused)
		}
		w.holds("refused Applies")
		w.back()
	}
}

// TestEachEdit: P20.2 to P20.4, each edit of each small text, its inverse, and Undo.
func TestEachEdit(t *testing.T) {
	for size := range 6 {
		for at := range size + 1 {
			for n := range size - at + 1 {
				for _, text := range []string{"", "x", "yz", words(size)[at : at+n], words(40)} {
					e := api.Edit{At: at, N: n, Text: text}
					w := begun(t, words(size))
					back := w.inverse(e)
					w.holds("Inverse")
					w.apply(e)
					w.holds("Apply")
					again := w.inverse(back)
					if again.At != e.At || again.N != e.N || again.Text != e.Text {
						t.Fatalf("the inverse's inverse: %v, should be %v", again, e)
					}
					w.apply(back)
					w.holds("the inverse")
					if w.text() != words(size) {
						t.Fatalf("%v behind %v: %q", back, e, w.text())
					}
					w.undo()
					w.holds("Undo of the inverse")
					w.undo()
					w.holds("Undo")
					w.undo()
					w.holds("Undo without edits")
				}
			}
		}
	}
}

// TestLarge: P20.2, an edit that leads to just MaxDoc bytes is applied, one that leads to one more is not, and Inverse answers the same.
func TestLarge(t *testing.T) {
	for _, size := range []int{0, 1, 5, most / 2, most - 1, most} {
		for _, at := range []int{0, 1, size / 2, size - 1, size} {
			for _, n := range []int{0, 1, size - at} {
				if !within(words(size), at, n) {
					continue
				}
				room := most - size + n
				w := begun(t, words(size))
				for _, more := range []int{1, 2, most, 1 << 20} {
					e := api.Edit{At: at, N: n, Text: words(room + more)}
					w.inverse(e)
					if f := w.apply(e); f != api.ErrLarge {
						t.Fatalf("Apply(%d %d) of %d bytes: %d", at, n, room+more, f)
					}
					w.looks("Apply that is ErrLarge")
				}
				e := api.Edit{At: at, N: n, Text: words(room)}
				w.inverse(e)
				if f := w.apply(e); f != api.OK || w.d.Len() != most {
					t.Fatalf("Apply(%d %d) of %d bytes: %d", at, n, room, f)
				}
				w.holds("Apply")
				// A full document takes one byte for another, and no byte more.
				w.apply(api.Edit{At: most / 3, N: 1, Text: "x"})
				w.apply(api.Edit{At: most / 3, N: 0, Text: "x"})
				w.apply(api.Edit{At: most / 3, N: 1, Text: "xy"})
				w.apply(api.Edit{At: most, N: 0, Text: ""})
				w.holds("Apply to a full document")
				w.back()
			}
		}
	}
}

// TestNothing: an edit that changes nothing is one that is kept, and Undo takes it back alone.
func TestNothing(t *testing.T) {
	for _, text := range []string{"", "a", "abc", words(most)} {
		w := begun(t, text)
		for at := range min(len(text), 3) + 1 {
			for n := range min(len(text)-at, 2) + 1 {
				w.apply(api.Edit{At: at, N: n, Text: text[at : at+n]})
				w.looks(fmt.Sprintf("Apply(%d %d) of the same", at, n))
			}
		}
		if w.d.Edits() == 0 || w.d.Text() != text {
			t.Error("Edits: ", w.d.Edits())
		}
		w.holds("Applies that change nothing")
		w.back()
	}
}

// TestEmpty: P20.5, a text that has become empty has no pieces, however, and one that is not has some.
func TestEmpty(t *testing.T) {
	w := begun(t, "")
	for range 20 {
		w.apply(api.Edit{Text: ""})
		w.looks("Apply of nothing")
	}
	for i := range 20 {
		w.apply(api.Edit{At: i / 2, Text: "ab"})
		w.apply(api.Edit{At: i / 3, N: 1})
		w.holds("Apply")
	}
	w.apply(api.Edit{N: len(w.text())})
	w.holds("Apply that takes all away")
	w.undo()
	w.holds("Undo")
	for len(w.text()) > 0 {
		w.apply(api.Edit{At: len(w.text()) / 2, N: 1})
		w.holds("Apply that takes a byte away")
	}
	w.back()
}

// TestPieces: P20.5, neither edits nor Undos make more pieces than two each, where each edit cuts, and where many are undone.
func TestPieces(t *testing.T) {
	w := begun(t, words(300))
	for i := range 100 {
		w.apply(api.Edit{At: 3*i + 1, N: 1, Text: "x"})
		w.looks("Apply")
	}
	for range 50 {
		w.undo()
		w.looks("Undo")
	}
	for i := range 100 {
		w.apply(api.Edit{At: i, N: len(w.text()) - 2*i, Text: words(300 - 2*i)})
		w.undo()
		w.apply(api.Edit{At: 3*i + 2, Text: "yz"})
		w.looks("Apply")
	}
	w.back()
	// A document on which nothing was done but what was refused has one piece.
	w = begun(t, "abc")
	for range 10 {
		w.undo()
		w.apply(api.Edit{At: 4})
		w.apply(api.Edit{At: math.MaxInt, N: math.MaxInt})
		w.inverse(api.Edit{At: 1, N: 1, Text: "x"})
		w.slice("Inverse", 1, 1)
	}
	if w.d.Pieces() != 1 {
		t.Error("Pieces: ", w.d.Pieces())
	}
}
