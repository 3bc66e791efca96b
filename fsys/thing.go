package fsys

import (
	"slices"

	"skerry/api"
	"skerry/dir"
	"skerry/walk"
)

// mostLinks is how many names a file has at most.
const mostLinks = 65535

// born takes an inode for a new file or directory.
func (c *call) born(kind int) (int, api.Errno) {
	i, e := c.alloc.Inode(c.op)
	if e != api.OK {
		return 0, e
	}
	return i, c.table.Put(c.op, i, api.Inode{Kind: kind, Links: 1})
}

// lose notes that inode i has lost a name. Without names it is gone.
func (c *call) lose(i int, x api.Inode) api.Errno {
	x.Links--
	if x.Links > 0 {
		return c.table.Put(c.op, i, x)
	}
	if e := c.table.Cut(c.op, i, 0); e != api.OK {
		return e
	}
	if e := c.table.Put(c.op, i, api.Inode{}); e != api.OK {
		return e
	}
	return c.alloc.FreeInode(c.op, i)
}

// holds answers whether a handle keeps a file from losing its last name.
func (c *call) holds(i int, x api.Inode) bool {
	return x.Links == 1 && slices.Contains(c.open[:], i)
}

// yields answers why inode i may not go, so that one of another name and that kind stands in its place.
func (c *call) yields(i int, x api.Inode, kind int) api.Errno {
	switch {
	case x.Kind == api.KindFile && kind == api.KindDir:
		return api.ErrNotDir
	case x.Kind == api.KindDir && kind == api.KindFile:
		return api.ErrIsDir
	case x.Kind == api.KindDir && x.Size > 0:
		return api.ErrNotEmpty
	case c.holds(i, x):
		return api.ErrBusy
	}
	return api.OK
}

// fits answers OK, if all that is below inode i would have paths, if that had this one. In a tree no directory is met twice; on a device that somebody else has written to it may be, and then this would not end.
func (c *call) fits(i int, path string) api.Errno {
	met := map[int]struct{}{}
	var down func(i int, path string) api.Errno
	down = func(i int, path string) api.Errno {
		if _, e := walk.Split(path); e != api.OK {
			return e
		}
		x, e := c.table.Get(c.op, i)
		if e != api.OK || x.Kind != api.KindDir {
			return e
		}
		if _, again := met[i]; again {
			return api.ErrCorrupt
		}
		met[i] = struct{}{}
		list, e := dir.List(c.op, c.table, c.plan, i)
		for _, entry := range list {
			if e = down(entry.Inode, path+"/"+entry.Name); e != api.OK {
				return e
			}
		}
		return e
	}
	return down(i, path)
}
