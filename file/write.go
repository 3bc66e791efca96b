package file

import (
	"bytes"
	"slices"

	"skerry/api"
	"skerry/bits"
	"skerry/field"
	"skerry/group"
	"skerry/inode"
	"skerry/plan"
)

// pointerSize is how many bytes of a block stand for a pointer.
const pointerSize = 2

// writing is what a Write is about to do. It is found ahead of the first change, and so is whether there is space for it: a Write that answers an error has changed nothing.
type writing struct {
	file
	changes []change
	lacks   map[way]struct{} // the pointers for which blocks must be taken
	before  []api.Write      // blocks that taking may change, as they were
}

// change is what a block of the file becomes. Its number is 0, where it must be taken yet.
type change struct {
	index, block int
	data         []byte
}

// way is how a pointer is reached, as plan.Steps tells; behind its end stands -1.
type way [3]int

// Write lets data stand in a file from at on.
func Write(o *group.Op, t *inode.Table, p api.Plan, i, at int, data []byte) api.Errno {
	if at < 0 {
		return api.ErrArg
	}
	if len(data) > api.MaxIO || endsBehind(p, at, len(data)) {
		return api.ErrLarge
	}
	f, e := open(o, t, p, i)
	if e != api.OK || len(data) == 0 {
		return e
	}
	w := &writing{file: f, lacks: map[way]struct{}{}}
	if e = w.blank(at); e != api.OK {
		return e
	}
	if e = w.lay(at, data); e != api.OK {
		return e
	}
	if e = w.room(); e != api.OK {
		return e
	}
	if e = w.do(at + len(data)); e != api.OK {
		w.undo()
	}
	return e
}

// blank notes the blocks between the file's end and that of at: they must not show what stood behind the end.
func (w *writing) blank(at int) api.Errno {
	first, end := w.node.Size/w.plan.Block, at/w.plan.Block
	if first >= end {
		return api.OK
	}
	list, _, e := w.table.Blocks(w.op, w.number)
	if e != api.OK {
		return e
	}
	for index := first; index < min(end, len(list)); index++ {
		b := list[index]
		if b == 0 {
			continue
		}
		block, e := w.old(index, b)
		if e != api.OK {
			return e
		}
		w.changes = append(w.changes, change{index, b, block})
	}
	return api.OK
}

// lay notes the blocks in which data is to stand.
func (w *writing) lay(at int, data []byte) api.Errno {
	for x := range pieces(w.plan.Block, at, len(data)) {
		b, e := w.table.Find(w.op, w.number, x.index)
		if e != api.OK {
			return e
		}
		block := make([]byte, w.plan.Block)
		switch {
		case b == 0:
			e = w.lack(x.index)
		case x.to-x.from == len(block):
			e = w.refuses(b)
		default:
			block, e = w.old(x.index, b)
		}
		if e != api.OK {
			return e
		}
		copy(block[x.from:x.to], data[x.at:])
		w.changes = append(w.changes, change{x.index, b, block})
	}
	return api.OK
}

// old answers what the file has in its block b; what stands there behind its end is none of it.
func (w *writing) old(index, b int) ([]byte, api.Errno) {
	if e := w.refuses(b); e != api.OK {
		return nil, e
	}
	size := w.node.Size - index*w.plan.Block
	if size <= 0 {
		return make([]byte, w.plan.Block), api.OK
	}
	data, e := w.read(b)
	if e != api.OK {
		return nil, e
	}
	clear(data[min(size, len(data)):])
	return data, api.OK
}

// lack notes what must be taken for a block of the file that is a hole, and keeps what is on the way to it.
func (w *writing) lack(index int) api.Errno {
	steps, e := plan.Steps(w.plan, index)
	if e != api.OK {
		return e
	}
	at := way{-1, -1, -1}
	b := 0
	for n, step := range steps {
		at[n] = step
		if n == 0 {
			b = pointerOf(w.node, step)
		} else if b != 0 {
			data, e := w.keep(b)
			if e != api.OK {
				return e
			}
			// No block that was read ends ahead of its pointers.
			b, _ = field.Get(data, step*pointerSize, pointerSize)
		}
		if b == 0 {
			w.lacks[at] = struct{}{}
		}
	}
	return api.OK
}

// pointerOf answers the block that the first pointer of a way names, as plan.Steps counts.
func pointerOf(x api.Inode, step int) int {
	switch step {
	case api.Direct:
		return x.Single
	case api.Direct + 1:
		return x.Double
	}
	return x.Direct[step]
}

// keep answers the bytes of block b, and lets undo know of them.
func (w *writing) keep(b int) ([]byte, api.Errno) {
	if n := slices.IndexFunc(w.before, func(x api.Write) bool { return x.Block == b }); n >= 0 {
		return w.before[n].Data, api.OK
	}
	data, e := w.read(b)
	if e != api.OK {
		return nil, e
	}
	w.before = append(w.before, api.Write{Block: b, Data: data})
	return data, api.OK
}

// undo lets what taking may have changed be as it was. A block that cannot be read is none that the operation has written, so it has not changed.
func (w *writing) undo() {
	for _, x := range w.before {
		data, e := w.op.Read(x.Block)
		if e == api.OK && !bytes.Equal(data, x.Data) {
			w.op.Write(x.Block, x.Data)
		}
	}
}

// room answers OK, if all blocks that are lacking can be taken.
func (w *writing) room() api.Errno {
	n := len(w.lacks)
	if n == 0 {
		return api.OK
	}
	at, _, e := plan.Place(w.plan, w.number)
	if e != api.OK {
		return e
	}
	if _, e = w.keep(at); e != api.OK {
		return e
	}
	if w.unused(n) < n {
		return api.ErrNoSpace
	}
	// One block is taken or refused at one time, and a Make that is refused has taken none.
	if n == 1 {
		return api.OK
	}
	return w.canTake(n)
}

// unused answers how many data blocks are not in use, or n, where that can't be told: from what cannot be read, nothing is taken.
func (w *writing) unused(n int) int {
	each, sum := 8*w.plan.Block, 0
	for start := w.plan.Data - w.plan.Data%each; start < w.plan.Blocks; start += each {
		data, e := w.keep(w.plan.BBits + start/each)
		if e != api.OK {
			return n
		}
		from, to := max(w.plan.Data-start, 0), min(w.plan.Blocks-start, each)
		// The bits lie within the block.
		used, _ := bits.Count(data, from, to)
		sum += to - from - used
	}
	return sum
}

// canTake answers OK, if n blocks can be taken. Of what is not in use, some may be kept, and only taking tells: an inode that is free takes, and can't name what it has taken, so that nothing but the bitmap tells of it.
func (w *writing) canTake(n int) api.Errno {
	defer w.undo()
	i, e := w.freeInode()
	if e != api.OK {
		return e
	}
	for range n {
		if _, _, e = w.table.Make(w.op, i, 0); e != api.ErrForm {
			return e
		}
	}
	return api.OK
}

// freeInode answers an inode that is free: 0, which is no file's; where it is one's all the same, the file's own, which is free till undo.
func (w *writing) freeInode() (int, api.Errno) {
	x, e := w.table.Get(w.op, 0)
	if e == api.OK && x.Kind == api.KindFree {
		return 0, api.OK
	}
	return w.number, w.table.Put(w.op, w.number, api.Inode{})
}

// do takes what is lacking, and then writes: where all is taken, nothing of that is refused.
func (w *writing) do(end int) api.Errno {
	for n, c := range w.changes {
		if c.block != 0 {
			continue
		}
		b, _, e := w.table.Make(w.op, w.number, c.index)
		if e != api.OK {
			return e
		}
		w.changes[n].block = b
	}
	if e := w.grow(end); e != api.OK {
		return e
	}
	for _, c := range w.changes {
		if e := w.put(c.block, c.data); e != api.OK {
			return e
		}
	}
	return api.OK
}
