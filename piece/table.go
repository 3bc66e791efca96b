package piece

import (
	"slices"
	"strings"
)

// table is a text as pieces, each a part of a text that was handed in. None is empty, so that an empty text has none.
type table struct {
	pieces []string
	length int
}

// change is what an edit did to a table: behind the first ahead pieces there stand put new ones for those that are gone.
type change struct {
	ahead, put int
	gone       []string
}

// has answers whether there are n bytes from at on.
func (t *table) has(at, n int) bool {
	return at >= 0 && n >= 0 && n <= t.length-at
}

// seek answers how many whole pieces stand ahead of a place, and how many bytes of the next one do.
func (t *table) seek(at int) (whole, rest int) {
	for whole < len(t.pieces) && at >= len(t.pieces[whole]) {
		at -= len(t.pieces[whole])
		whole++
	}
	return whole, at
}

// part answers n bytes from at on, that are there.
func (t *table) part(at, n int) string {
	var b strings.Builder
	b.Grow(n)
	i, rest := t.seek(at)
	for b.Len() < n {
		s := t.pieces[i][rest:]
		b.WriteString(s[:min(len(s), n-b.Len())])
		i, rest = i+1, 0
	}
	return b.String()
}

// replace puts text in the place of n bytes from at on, that are there. A piece that is cut goes whole, and what is left of it is new: so restore makes no more pieces than there were.
func (t *table) replace(at, n int, text string) change {
	from, left := t.seek(at)
	to, right := t.seek(at + n)
	var put []string
	if left > 0 {
		put = append(put, t.pieces[from][:left])
	}
	if text != "" {
		put = append(put, text)
	}
	if right > 0 {
		put = append(put, t.pieces[to][right:])
		to++
	}
	c := change{from, len(put), slices.Clone(t.pieces[from:to])}
	t.swap(from, to, put)
	return c
}

// restore takes a change back, that is the last one which was not taken back.
func (t *table) restore(c change) {
	t.swap(c.ahead, c.ahead+c.put, c.gone)
}

// swap puts pieces in the place of those from one to another.
func (t *table) swap(from, to int, put []string) {
	t.length += size(put) - size(t.pieces[from:to])
	t.pieces = slices.Replace(t.pieces, from, to, put...)
}

// size answers how many bytes pieces have in all.
func size(pieces []string) int {
	sum := 0
	for _, s := range pieces {
		sum += len(s)
	}
	return sum
}
