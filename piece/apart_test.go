package piece_test

import (
	"slices"
	"strings"
	"testing"
	"unsafe"

	"skerry/api"
	"skerry/piece"
)

// lent answers a text whose bytes can be written over behind a call.
func lent(s string) (string, []byte) {
	b := append([]byte(s), 0)
	return unsafe.String(&b[0], len(s)), b
}

// blot writes over bytes.
func blot(b []byte) {
	for i := range b {
		b[i] ^= 0x55
	}
}

// shares answers whether two texts have a byte of memory in common.
func shares(a, b string) bool {
	if a == "" || b == "" {
		return false
	}
	p, q := uintptr(unsafe.Pointer(unsafe.StringData(a))), uintptr(unsafe.Pointer(unsafe.StringData(b)))
	return p < q+uintptr(len(b)) && q < p+uintptr(len(a))
}

// TestTextsKept: R4, of a text that is handed in nothing is kept but its bytes' values, and none of them is changed.
func TestTextsKept(t *testing.T) {
	for _, size := range []int{1, 2, 100, 5000, most} {
		text, under := lent(words(size))
		w := begun(t, text)
		if text != words(size) {
			t.Fatal("New has written over its text")
		}
		w.texts[0] = words(size)
		blot(under)
		w.holds("the text of New written over")
		put, under := lent(words(size)[size/2:])
		e := api.Edit{At: size / 3, N: size - size/3, Text: put}
		if y, f := w.d.Inverse(e); f != api.OK || put != words(size)[size/2:] {
			t.Fatal("Inverse: ", y.At, y.N, f)
		}
		w.looks("Inverse")
		if f := w.d.Apply(e); f != api.OK || put != words(size)[size/2:] {
			t.Fatal("Apply: ", f)
		}
		blot(under)
		e.Text = words(size)[size/2:]
		w.texts, w.done = append(w.texts, cut(w.text(), e)), 1
		w.holds("the text of an edit written over")
		w.apply(api.Edit{At: 0, N: 1})
		w.holds("Apply")
		w.back()
	}
}

// TestAnswersApart: R4, texts that are answered are new memory: they share none with what was handed in, with the document, or with one another.
func TestAnswersApart(t *testing.T) {
	first, put := strings.Clone("first text"), strings.Clone("more")
	d, _ := piece.New(first)
	given := []string{first, put}
	var answered []string
	ask := func() {
		for range 2 {
			answered = append(answered, d.Text())
			for _, n := range []int{1, 2, d.Len() - 1, d.Len()} {
				s, e := d.Slice(d.Len()-n, n)
				if len(s) != n || e != api.OK {
					t.Fatal("Slice: ", s, e)
				}
				answered = append(answered, s)
				x, e := d.Inverse(api.Edit{N: n, Text: put})
				if len(x.Text) != n || e != api.OK {
					t.Fatal("Inverse: ", x, e)
				}
				answered = append(answered, x.Text)
				given = append(given, x.Text)
			}
		}
	}
	ask()
	for _, at := range []int{0, 5, 14} {
		if e := d.Apply(api.Edit{At: at, Text: put}); e != api.OK {
			t.Fatal("Apply: ", e)
		}
		ask()
	}
	d.Apply(api.Edit{At: 0, N: d.Len() - 2, Text: "x"})
	ask()
	d.Undo()
	ask()
	for i, a := range answered {
		for _, b := range slices.Concat([]string{first, put}, answered[:i]) {
			if shares(a, b) {
				t.Fatalf("%q shares memory with %q", a, b)
			}
		}
	}
}

// TestAnswersStay: what has been answered is as it was, whatever is done to the document, and the document is as it was, whatever is done to the bytes of what was answered.
func TestAnswersStay(t *testing.T) {
	w := begun(t, "some text")
	w.apply(api.Edit{At: 4, N: 1, Text: ", or other, "})
	text := w.d.Text()
	part, _ := w.d.Slice(2, 9)
	back, _ := w.d.Inverse(api.Edit{At: 2, N: 9, Text: "none"})
	kept := []string{strings.Clone(text), strings.Clone(part), strings.Clone(back.Text)}
	w.apply(api.Edit{At: 0, N: 10, Text: "quite another one"})
	w.undo()
	w.undo()
	w.apply(api.Edit{At: 0, N: 9, Text: "QQQQQQQQQQQQQ"})
	if text != kept[0] || part != kept[1] || back.Text != kept[2] {
		t.Errorf("%q %q %q", text, part, back.Text)
	}
	for _, s := range []string{w.d.Text(), text, part, back.Text} {
		blot(unsafe.Slice(unsafe.StringData(s), len(s)))
		w.holds("what was answered written over")
	}
	one, _ := w.d.Slice(0, w.d.Len())
	blot(unsafe.Slice(unsafe.StringData(one), len(one)))
	w.holds("what Slice answered written over")
	w.back()
}

// TestDocumentsApart: R5, documents of one text, and those whose edits came from another one, do not change with one another.
func TestDocumentsApart(t *testing.T) {
	text := words(30)
	one, two, three := begun(t, text), begun(t, text), begun(t, "")
	d := dice(5)
	docs := []*world{one, two, three}
	for range 1500 {
		w := docs[d.below(3)]
		switch d.below(4) {
		case 0:
			w.undo()
		case 1:
			// One edit for all, and its inverse for the others.
			e := anyEdit(&d, w.text(), 8)
			back := w.inverse(e)
			for _, x := range docs {
				x.apply(e)
				x.apply(back)
			}
		default:
			w.apply(anyEdit(&d, w.text(), 8))
		}
		for _, x := range docs {
			x.looks("a step")
		}
	}
	one.back()
	two.holds("another one undone")
	two.back()
	three.holds("the others undone")
	three.back()
}

// TestSame: R5, the same calls on new documents have the same answers, how many pieces there are too.
func TestSame(t *testing.T) {
	run := func() (pieces []int) {
		d := dice(11)
		w := begun(t, words(50))
		for range 200 {
			if d.below(4) == 0 {
				w.undo()
			} else {
				w.apply(anyEdit(&d, w.text(), 9))
			}
			pieces = append(pieces, w.d.Pieces())
		}
		return pieces
	}
	first := run()
	if !slices.Equal(first, run()) {
		t.Error("Pieces differ")
	}
}
