package piece_test

import (
	"slices"
	"testing"

	"skerry/api"
)

// edits answers all edits of a text of size bytes, and those that are just behind them.
func edits(size int, texts ...string) (list []api.Edit) {
	for at := -1; at <= size+1; at++ {
		for n := -1; n <= size-at+1; n++ {
			for _, text := range texts {
				list = append(list, api.Edit{At: at, N: n, Text: text})
			}
		}
	}
	return list
}

// again answers a world of a new document with the first text of another one, on which the same has been done.
func again(t *testing.T, text string, steps []step) *world {
	w := begun(t, text)
	for _, s := range steps {
		s.on(w)
	}
	return w
}

// step is an edit that is applied, or an Undo.
type step struct {
	undo bool
	edit api.Edit
}

// on does the step.
func (s step) on(w *world) api.Errno {
	w.t.Helper()
	if s.undo {
		return w.undo()
	}
	return w.apply(s.edit)
}

// all does every script of so many steps behind those that were done, each on a document of its own, and tests each document.
func all(t *testing.T, text string, done []step, more int) int {
	w := again(t, text, done)
	w.holds("a script")
	if more == 0 {
		w.back()
		return 1
	}
	count := 0
	next := []step{{undo: true}}
	for _, e := range edits(len(w.text()), "", "x", "yz") {
		w.inverse(e)
		if refusal(w.text(), e) == api.OK {
			next = append(next, step{edit: e})
		} else {
			w.apply(e)
		}
	}
	w.holds("Inverse, and Apply that is refused")
	for _, s := range next {
		count += all(t, text, append(done[:len(done):len(done)], s), more-1)
	}
	return count
}

// TestAllScripts: all scripts of a few steps on small texts.
func TestAllScripts(t *testing.T) {
	count := all(t, "", nil, 4) + all(t, "a", nil, 3) + all(t, "abc", nil, 2)
	if count < 10000 {
		t.Error("scripts: ", count)
	}
}

// anyEdit answers an edit of a text, or one that is none.
func anyEdit(d *dice, text string, much int) api.Edit {
	size := len(text)
	at := d.below(size + 1)
	n := d.below(min(size-at, 1+d.below(much)) + 1)
	put := d.below(1 + d.below(much))
	switch d.below(20) {
	case 0:
		at = size - n
	case 1:
		at, n = 0, size
	case 2:
		n = size - at
	case 3:
		n = size - at + 1 + d.below(3)
	case 4:
		at = numbers[d.below(len(numbers))]
	case 5:
		n = numbers[d.below(len(numbers))]
	case 6, 7:
		put = 0
	case 8:
		n, put = 0, 0
	case 9:
		at = 0
	}
	from := d.below(1000)
	return api.Edit{At: at, N: n, Text: words(from + put)[from:]}
}

// TestLongScripts: long scripts of Apply, Inverse and Undo against texts that are cut and joined anew.
func TestLongScripts(t *testing.T) {
	asked := map[api.Errno]int{}
	for seed := range 60 {
		d := dice(seed)
		w := begun(t, words(d.below(40)))
		for range 300 {
			switch d.below(8) {
			case 0, 1:
				asked[w.undo()]++
			case 2:
				// The inverse makes the text what it was.
				was := w.text()
				e := anyEdit(&d, was, 12)
				back := w.inverse(e)
				w.looks("Inverse")
				if w.apply(e) == api.OK {
					w.looks("Apply")
					if f := w.apply(back); f != api.OK || w.d.Text() != was {
						t.Fatalf("the inverse: %d %q, should be %q", f, w.d.Text(), was)
					}
				}
			default:
				asked[w.apply(anyEdit(&d, w.text(), 12))]++
			}
			w.holds("a step")
			at, n := d.below(len(w.text())+2)-1, d.below(len(w.text())+2)-1
			w.slice("a step", at, n)
		}
		w.back()
	}
	for _, e := range []api.Errno{api.OK, api.ErrRange, api.ErrNone} {
		if asked[e] == 0 {
			t.Error("never met: ", e)
		}
	}
}

// TestFullScripts: the same on documents that are nearly full, where much is put in and taken away at one time.
func TestFullScripts(t *testing.T) {
	asked := map[api.Errno]int{}
	for seed := range 6 {
		d := dice(1000 + seed)
		w := begun(t, words(most-d.below(3)*1000))
		for range 150 {
			if d.below(5) == 0 {
				asked[w.undo()]++
			} else {
				e := anyEdit(&d, w.text(), []int{10, 3000, most}[d.below(3)])
				w.inverse(e)
				asked[w.apply(e)]++
			}
			w.holds("a step")
		}
		w.back()
	}
	for _, e := range []api.Errno{api.OK, api.ErrRange, api.ErrLarge, api.ErrNone} {
		if asked[e] == 0 {
			t.Error("never met: ", e)
		}
	}
}

// TestByteByByte: a document that is written a byte at a time, at its end, at its beginning and in the middle, till there is no room, and then undone.
func TestByteByByte(t *testing.T) {
	for name, place := range map[string]func(i int) int{"end": func(i int) int { return i }, "beginning": func(i int) int { return 0 }, "middle": func(i int) int { return i / 2 }} {
		w := begun(t, "")
		var b []byte
		for i, c := range []byte(words(most)) {
			b = slices.Insert(b, place(i), c)
			if f := w.d.Apply(api.Edit{At: place(i), Text: string([]byte{c})}); f != api.OK || w.d.Len() != i+1 {
				t.Fatal(name, ": Apply: ", f, w.d.Len())
			}
			if i%5000 == 0 && w.d.Text() != string(b) {
				t.Fatal(name, ": Text is not what was written")
			}
		}
		if w.d.Text() != string(b) || w.d.Edits() != most || w.d.Pieces() > 1+2*most {
			t.Error(name, ": ", w.d.Edits(), w.d.Pieces())
		}
		if f := w.d.Apply(api.Edit{At: place(most), Text: "x"}); f != api.ErrLarge {
			t.Error(name, ": Apply: ", f)
		}
		for i := range most {
			if f := w.d.Undo(); f != api.OK || w.d.Len() != most-1-i {
				t.Fatal(name, ": Undo: ", f, w.d.Len())
			}
		}
		w.holds("all undone")
	}
}
