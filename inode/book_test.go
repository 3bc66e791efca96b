package inode_test

import (
	"cmp"
	"maps"
	"slices"

	"skerry/api"
)

// way is how a pointer is reached, as chapter 5 counts; behind its end stands -1.
type way [3]int

// waysTo answers the pointers on the way to block number n of a file, from the inode on.
func waysTo(p api.Plan, n int) []way {
	per := p.Block / 2
	if n < 8 {
		return []way{{n, -1, -1}}
	}
	if n < 8+per {
		return []way{{8, -1, -1}, {8, n - 8, -1}}
	}
	k, m := (n-8-per)/per, (n-8-per)%per
	return []way{{9, -1, -1}, {9, k, -1}, {9, k, m}}
}

// isData answers whether a data block is named there, and not one with pointers.
func (w way) isData() bool {
	return w[0] < 8 || w[0] == 8 && w[1] >= 0 || w[2] >= 0
}

// least answers the first of the numbers on whose ways a pointer lies.
func (w way) least(p api.Plan) int {
	per := p.Block / 2
	switch {
	case w[0] < 8:
		return w[0]
	case w[0] == 8:
		return 8 + max(w[1], 0)
	}
	return 8 + per + max(w[1], 0)*per + max(w[2], 0)
}

// holder answers the pointer to the block in which a pointer stands; false, if it stands in the inode.
func (w way) holder() (way, bool) {
	switch {
	case w[2] >= 0:
		return way{w[0], w[1], -1}, true
	case w[1] >= 0:
		return way{w[0], -1, -1}, true
	}
	return way{}, false
}

// numbers is a set of them.
type numbers map[int]struct{}

func (n numbers) has(i int) bool {
	_, has := n[i]
	return has
}

func (n numbers) put(i int) {
	n[i] = struct{}{}
}

func (n numbers) list() []int {
	return slices.Sorted(maps.Keys(n))
}

// record is an inode without blocks: what it is, and what is named by which pointer.
type record struct {
	kind, links, size int
	named             map[way]int
}

// page is what an operation sees, and has done: inodes, data blocks in use and a byte that fills each of them that was written as data, blocks that it writes into the log, and frees.
type page struct {
	inodes              []record
	used, writes, frees numbers
	bytes               map[int]byte
}

// book is the chapter as maps: what stands there behind the operations that have ended, and behind the open one; the blocks of the group. Which blocks are kept is asked of kept.
type book struct {
	p      api.Plan
	kept   func(b int) bool
	page   *page
	open   *page
	logged numbers
}

func newBook(w *world) *book {
	k := &book{p: w.p, kept: w.g.Kept, logged: numbers{}}
	k.page = &page{used: numbers{}, bytes: map[int]byte{}}
	for range w.p.Inodes {
		k.page.inodes = append(k.page.inodes, record{named: map[way]int{}})
	}
	return k
}

func (k *book) begin() {
	n := &page{used: maps.Clone(k.page.used), bytes: maps.Clone(k.page.bytes), writes: numbers{}, frees: numbers{}}
	for _, r := range k.page.inodes {
		r.named = maps.Clone(r.named)
		n.inodes = append(n.inodes, r)
	}
	k.open = n
}

// get answers inode i as it should stand there.
func (k *book) get(i int) api.Inode {
	r := k.open.inodes[i]
	x := api.Inode{Kind: r.kind, Links: r.links, Size: r.size, Single: r.named[way{8, -1, -1}], Double: r.named[way{9, -1, -1}]}
	for n := range x.Direct {
		x.Direct[n] = r.named[way{n, -1, -1}]
	}
	return x
}

// put lets an inode have these numbers, and its blocks still.
func (k *book) put(i, kind, links, size int) {
	r := &k.open.inodes[i]
	r.kind, r.links, r.size = kind, links, size
	k.touchInode(i)
}

// forget lets an inode be free, with blocks or not: what it named stays in use.
func (k *book) forget(i int) {
	k.open.inodes[i] = record{named: map[way]int{}}
	k.touchInode(i)
}

func (k *book) touchInode(i int) {
	k.open.writes.put(k.p.Table + i/(k.p.Block/32))
}

// touchBit notes that the operation writes the block of the bitmap in which the bit of b stands.
func (k *book) touchBit(b int) {
	k.open.writes.put(k.p.BBits + b/(8*k.p.Block))
}

// find answers block number n of a file.
func (k *book) find(i, n int) int {
	ways := waysTo(k.p, n)
	return k.open.inodes[i].named[ways[len(ways)-1]]
}

// make answers block number n of a file, and the blocks that are taken for it, in order. Behind an error these stay taken.
func (k *book) make(i, n int) (b int, taken []int, e api.Errno) {
	r := k.open.inodes[i]
	for _, w := range waysTo(k.p, n) {
		if r.named[w] != 0 {
			continue
		}
		b := k.take()
		if b == 0 {
			return 0, taken, api.ErrNoSpace
		}
		taken = append(taken, b)
		if r.kind == api.KindFree {
			return 0, taken, api.ErrForm
		}
		r.named[w] = b
		k.touchHolder(i, w)
		if !w.isData() {
			k.open.writes.put(b)
		}
	}
	return k.find(i, n), taken, api.OK
}

// touchHolder notes that the operation writes where a pointer stands.
func (k *book) touchHolder(i int, w way) {
	if h, in := w.holder(); in {
		k.open.writes.put(k.open.inodes[i].named[h])
	} else {
		k.touchInode(i)
	}
}

// take answers the least block that can be taken, or 0.
func (k *book) take() int {
	for b := k.p.Data; b < k.p.Blocks; b++ {
		if !k.open.used.has(b) && !k.kept(b) {
			k.open.used.put(b)
			delete(k.open.bytes, b)
			k.touchBit(b)
			return b
		}
	}
	return 0
}

// cut lets a file have that size, and answers the blocks that are freed for it.
func (k *book) cut(i, size int) (freed []int, e api.Errno) {
	r := &k.open.inodes[i]
	if r.kind == api.KindFree && size != 0 {
		return nil, api.ErrForm
	}
	r.size = size
	k.touchInode(i)
	gone := func(w way) bool { return w.least(k.p)*k.p.Block >= size }
	for w := range r.named {
		if h, in := w.holder(); gone(w) && in && !gone(h) {
			k.touchHolder(i, w)
		}
	}
	for w, b := range r.named {
		if gone(w) {
			freed = append(freed, b)
		}
	}
	maps.DeleteFunc(r.named, func(w way, _ int) bool { return gone(w) })
	slices.Sort(freed)
	for _, b := range freed {
		k.touchBit(b)
		delete(k.open.used, b)
		delete(k.open.writes, b)
		k.open.frees.put(b)
	}
	return freed, api.OK
}

// blocks answers the blocks of a file.
func (k *book) blocks(i int) (data, pointers []int) {
	named := k.open.inodes[i].named
	var with []way
	for w, b := range named {
		if !w.isData() {
			with = append(with, w)
			continue
		}
		n := w.least(k.p)
		if n >= len(data) {
			data = append(data, make([]int, n+1-len(data))...)
		}
		data[n] = b
	}
	slices.SortFunc(with, func(a, b way) int { return cmp.Or(cmp.Compare(a[0], b[0]), cmp.Compare(a[1], b[1])) })
	for _, w := range with {
		pointers = append(pointers, named[w])
	}
	return data, pointers
}

func (k *book) uses(n numbers) int {
	most := (k.p.Block - 10) / 2
	return len(n) + (len(n)+most-1)/most
}

// end answers ErrLarge, if the operation is too large for the log, and else lets it be done.
func (k *book) end() api.Errno {
	o := k.open
	k.open = nil
	if k.uses(o.writes) > k.p.Log {
		return api.ErrLarge
	}
	both := maps.Clone(k.logged)
	maps.Copy(both, o.writes)
	if k.uses(both) > k.p.Log {
		clear(k.logged)
	}
	maps.Copy(k.logged, o.writes)
	for b := range o.frees {
		delete(k.logged, b)
	}
	k.page = o
	return api.OK
}
