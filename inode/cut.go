package inode

import (
	"bytes"
	"maps"
	"slices"

	"skerry/api"
	"skerry/bits"
	"skerry/field"
	"skerry/group"
	"skerry/plan"
)

// cutting is what a Cut is about to do. All of it is found, and is known to be allowed, ahead of the first change: so a Cut that answers an error has changed nothing.
type cutting struct {
	table *Table
	op    *group.Op
	first int              // the first number whose block goes
	gone  map[int]struct{} // the blocks that go
	marks map[int][]byte   // the blocks of the bitmap in which their bits stand
	stay  []api.Write      // the blocks with pointers that stay, without those that go
}

// Cut lets a file have that size, and frees its blocks behind it.
func (t *Table) Cut(o *group.Op, i, size int) api.Errno {
	if t == nil {
		return api.ErrArg
	}
	first, _, e := plan.Whole(t.plan, size)
	if e != api.OK {
		return e
	}
	x, e := t.Get(o, i)
	if e != api.OK {
		return e
	}
	c := &cutting{table: t, op: o, first: first, gone: map[int]struct{}{}, marks: map[int][]byte{}}
	if e = t.walk(o, x, first, c.visit); e != api.OK {
		return e
	}
	x.Size = size
	c.shorten(&x)
	// The inode goes first: its block is read once more for it, which may still be refused.
	if e = t.Put(o, i, x); e != api.OK {
		return e
	}
	return c.do()
}

// shorten lets an inode name none of the blocks that go.
func (c *cutting) shorten(x *api.Inode) {
	clear(x.Direct[min(c.first, api.Direct):])
	if c.first <= api.Direct {
		x.Single = 0
	}
	if c.first <= api.Direct+c.table.per() {
		x.Double = 0
	}
}

// visit notes what is to be done with a block of the file.
func (c *cutting) visit(p part) api.Errno {
	if p.number >= c.first {
		return c.drop(p.block)
	}
	return c.trim(p)
}

// drop notes a block that goes; what refuses it is what alloc would.
func (c *cutting) drop(b int) api.Errno {
	p := c.table.plan
	if b < p.Data || b >= p.Blocks {
		return api.ErrRange
	}
	each := 8 * p.Block
	at := p.BBits + b/each
	if c.marks[at] == nil {
		data, e := c.table.read(c.op, at)
		if e != api.OK {
			return e
		}
		c.marks[at] = data
	}
	used, e := bits.Get(c.marks[at], b%each)
	if e != api.OK {
		return e
	}
	// A block that is named twice is free when its second turn comes.
	if _, twice := c.gone[b]; twice || !used {
		return api.ErrNone
	}
	c.gone[b] = struct{}{}
	return api.OK
}

// trim notes a block with pointers that stays, if it has some of which nothing stays.
func (c *cutting) trim(p part) api.Errno {
	each := p.span / c.table.per()
	at := (c.first - p.number + each - 1) / each * pointerSize
	none, e := field.Zero(p.data, at, len(p.data)-at)
	if none || e != api.OK {
		return e
	}
	// The operation would refuse it too, but not ahead of all changes.
	if p.block < c.table.plan.IBits {
		return api.ErrRange
	}
	// The walk is not through with the bytes yet.
	data := bytes.Clone(p.data)
	clear(data[at:])
	c.stay = append(c.stay, api.Write{Block: p.block, Data: data})
	return api.OK
}

// do frees what goes, and lets its pointers be 0.
func (c *cutting) do() api.Errno {
	// They are written in any case. From now on they are the operation's own, and freeing asks for nothing that could be refused.
	for at, data := range c.marks {
		if e := c.op.Write(at, data); e != api.OK {
			return e
		}
	}
	for _, b := range slices.Sorted(maps.Keys(c.gone)) {
		if e := c.table.alloc.FreeBlock(c.op, b); e != api.OK {
			return e
		}
	}
	for _, w := range c.stay {
		if e := c.op.Write(w.Block, w.Data); e != api.OK {
			return e
		}
	}
	return api.OK
}
