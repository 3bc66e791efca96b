package piece_test

import (
	"math"
	"testing"

	"skerry/api"
	"skerry/piece"
)

// most is api.MaxDoc by its number, so that no test goes by a wrong one.
const most = 65536

// numbers are those that are no place and no length of any text.
var numbers = []int{-1, -2, math.MinInt, math.MinInt + 1, math.MinInt32, -most, most + 1, math.MaxInt32, math.MaxInt - 1, math.MaxInt}

// dice answers numbers by a rule of its own, the same ones each time.
type dice uint64

// below answers a number from 0 to n - 1.
func (d *dice) below(n int) int {
	*d = *d*6364136223846793005 + 1442695040888963407
	return int(uint64(*d) >> 33 % uint64(n))
}

// world is a document beside what it should be: all texts that it has had, the one that it has now last, and how many Applies and Undos answered OK.
type world struct {
	t     *testing.T
	d     *piece.Doc
	texts []string
	done  int
}

// begun answers the world of a new document.
func begun(t *testing.T, text string) *world {
	t.Helper()
	d, e := piece.New(text)
	if d == nil || e != api.OK {
		t.Fatalf("New of %d bytes: %v %v", len(text), d, e)
	}
	w := &world{t: t, d: d, texts: []string{text}}
	w.holds("New")
	return w
}

// text answers what the text should be.
func (w *world) text() string {
	return w.texts[len(w.texts)-1]
}

// within answers whether a text has n bytes from at on, by what the chapter says, with no sum that could wrap.
func within(text string, at, n int) bool {
	return at >= 0 && n >= 0 && at <= len(text) && n <= len(text[at:])
}

// refusal answers the error that the chapter asks for where an edit is applied to a text.
func refusal(text string, e api.Edit) api.Errno {
	if !within(text, e.At, e.N) {
		return api.ErrRange
	}
	if len(text)-e.N+len(e.Text) > most {
		return api.ErrLarge
	}
	return api.OK
}

// cut answers the text that is cut and joined anew.
func cut(text string, e api.Edit) string {
	return text[:e.At] + e.Text + text[e.At+e.N:]
}

// brief answers a text for a message.
func brief(s string) string {
	if len(s) > 60 {
		return s[:60] + ".."
	}
	return s
}

// looks tests all that the document tells, but Slice.
func (w *world) looks(call string) {
	w.t.Helper()
	text := w.text()
	if got := w.d.Text(); got != text {
		w.t.Fatalf("%s: Text is %q, should be %q", call, brief(got), brief(text))
	}
	if got := w.d.Len(); got != len(text) {
		w.t.Fatalf("%s: Len is %d, should be %d", call, got, len(text))
	}
	if got := w.d.Edits(); got != len(w.texts)-1 {
		w.t.Fatalf("%s: Edits is %d, should be %d", call, got, len(w.texts)-1)
	}
	got, bound := w.d.Pieces(), 1+2*w.done
	if got > bound || (got > 0) != (text != "") {
		w.t.Fatalf("%s: Pieces of %d bytes is %d, and at most %d may be", call, len(text), got, bound)
	}
}

// slices tests one Slice.
func (w *world) slice(call string, at, n int) {
	w.t.Helper()
	text, wanted, f := w.text(), "", api.ErrRange
	if within(text, at, n) {
		wanted, f = text[at:at+n], api.OK
	}
	if got, e := w.d.Slice(at, n); got != wanted || e != f {
		w.t.Fatalf("%s: Slice(%d, %d) is %q %d, should be %q %d", call, at, n, brief(got), e, brief(wanted), f)
	}
}

// holds tests all that the document tells; of a small text every Slice.
func (w *world) holds(call string) {
	w.t.Helper()
	w.looks(call)
	size := len(w.text())
	if size > 20 {
		for _, at := range []int{0, 1, size / 3, size - 1, size} {
			for _, n := range []int{0, 1, size / 2, size - at, size - at + 1} {
				w.slice(call, at, n)
			}
		}
		return
	}
	for at := -1; at <= size+1; at++ {
		for n := -1; n <= size+1; n++ {
			w.slice(call, at, n)
		}
	}
}

// inverse tests Inverse, and answers what it should answer.
func (w *world) inverse(e api.Edit) api.Edit {
	w.t.Helper()
	var wanted api.Edit
	f := refusal(w.text(), e)
	if f == api.OK {
		wanted = api.Edit{At: e.At, N: len(e.Text), Text: w.text()[e.At : e.At+e.N]}
	}
	if got, g := w.d.Inverse(e); got != wanted || g != f {
		w.t.Fatalf("Inverse(%d %d %q) is %d %d %q %d, should be %d %d %q %d", e.At, e.N, brief(e.Text), got.At, got.N, brief(got.Text), g, wanted.At, wanted.N, brief(wanted.Text), f)
	}
	return wanted
}

// apply tests Apply, without all that the document tells behind it.
func (w *world) apply(e api.Edit) api.Errno {
	w.t.Helper()
	f := refusal(w.text(), e)
	if f == api.OK {
		w.texts = append(w.texts, cut(w.text(), e))
		w.done++
	}
	if got := w.d.Apply(e); got != f {
		w.t.Fatalf("Apply(%d %d %q) is %d, should be %d", e.At, e.N, brief(e.Text), got, f)
	}
	return f
}

// undo tests Undo, without all that the document tells behind it.
func (w *world) undo() api.Errno {
	w.t.Helper()
	f := api.ErrNone
	if len(w.texts) > 1 {
		w.texts = w.texts[:len(w.texts)-1]
		w.done++
		f = api.OK
	}
	if got := w.d.Undo(); got != f {
		w.t.Fatalf("Undo is %d, should be %d", got, f)
	}
	return f
}

// back undoes all that is kept, and once more.
func (w *world) back() {
	w.t.Helper()
	for w.undo() == api.OK {
		w.looks("Undo")
	}
	w.holds("Undo without edits")
}

// words answers a text of n bytes, the first ones of one that is the same each time.
func words(n int) string {
	d := dice(7)
	b := make([]byte, n)
	for i := range b {
		b[i] = byte(d.below(256))
	}
	return string(b)
}
