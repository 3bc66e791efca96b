package fsys

import (
	"skerry/api"
	"skerry/dir"
	"skerry/walk"
)

// root is the path of the directory that all paths begin with, rootInode its inode.
const (
	root      = "/"
	rootInode = 1
)

// place is where a name stands in a directory, or would.
type place struct {
	dir  int
	name string
}

// find walks a path.
func (c *call) find(path string) (int, api.Errno) {
	names, e := walk.Split(path)
	if e != api.OK {
		return 0, e
	}
	i := rootInode
	for _, name := range names {
		if i, e = dir.Find(c.op, c.table, c.plan, i, name); e != api.OK {
			return 0, e
		}
	}
	return i, api.OK
}

// look walks a path, and answers what stands there.
func (c *call) look(path string) (int, api.Inode, api.Errno) {
	i, e := c.find(path)
	if e != api.OK {
		return 0, api.Inode{}, e
	}
	x, e := c.table.Get(c.op, i)
	return i, x, e
}

// place walks the parent of a path, that is not /. Whether that is a directory is told when a name is sought there.
func (c *call) place(path string) (place, api.Errno) {
	up, name, e := walk.Parent(path)
	if e != api.OK {
		return place{}, e
	}
	i, e := c.find(up)
	if e != api.OK {
		return place{}, e
	}
	return place{i, name}, api.OK
}

// seek walks the parent of a path, that is not /, and answers what its last name names there: 0, if it is not there.
func (c *call) seek(path string) (place, int, api.Errno) {
	p, e := c.place(path)
	if e != api.OK {
		return place{}, 0, e
	}
	i, e := dir.Find(c.op, c.table, c.plan, p.dir, p.name)
	if e == api.ErrNone {
		return p, 0, api.OK
	}
	return p, i, e
}

// taken walks a path, that is not /, and answers where its last name stands too.
func (c *call) taken(path string) (place, int, api.Errno) {
	p, i, e := c.seek(path)
	if e == api.OK && i == 0 {
		e = api.ErrNone
	}
	return p, i, e
}

// insert lets a new name stand for inode i.
func (c *call) insert(p place, i int) api.Errno {
	e := dir.Insert(c.op, c.table, c.plan, p.dir, p.name, i)
	// A directory has no more names than the greatest file has room for: what is missing is space, as of the log nothing is asked yet.
	if e == api.ErrLarge {
		return api.ErrNoSpace
	}
	return e
}

// enter lets a new name stand for the inode that bear answers, which is called only where nothing bars that any more but space.
func (c *call) enter(path string, bear func() (int, api.Errno)) api.Errno {
	if path == root {
		return api.ErrExists
	}
	p, i, e := c.seek(path)
	if e != api.OK {
		return e
	}
	if i != 0 {
		return api.ErrExists
	}
	if i, e = bear(); e != api.OK {
		return e
	}
	return c.insert(p, i)
}

// remove lets a name, that is not /, be gone, unless refuses answers an error for what it names.
func (c *call) remove(path string, refuses func(i int, x api.Inode) api.Errno) api.Errno {
	p, i, e := c.taken(path)
	if e != api.OK {
		return e
	}
	x, e := c.table.Get(c.op, i)
	if e != api.OK {
		return e
	}
	if e = refuses(i, x); e != api.OK {
		return e
	}
	if e = dir.Remove(c.op, c.table, c.plan, p.dir, p.name); e != api.OK {
		return e
	}
	return c.lose(i, x)
}
