package fsys

import (
	"skerry/api"
	"skerry/dir"
	"skerry/walk"
)

// Create lets a path name a new file.
func (s *FS) Create(path string) api.Errno {
	return s.run(func(c *call) api.Errno {
		return c.enter(path, func() (int, api.Errno) { return c.born(api.KindFile) })
	}, path)
}

// Mkdir lets a path name a new directory.
func (s *FS) Mkdir(path string) api.Errno {
	return s.run(func(c *call) api.Errno {
		return c.enter(path, func() (int, api.Errno) { return c.born(api.KindDir) })
	}, path)
}

// Link lets a path name the file that old names.
func (s *FS) Link(old, path string) api.Errno {
	return s.run(func(c *call) api.Errno {
		i, x, e := c.look(old)
		switch {
		case e != api.OK:
			return e
		case x.Kind == api.KindDir:
			return api.ErrIsDir
		case x.Links == mostLinks:
			return api.ErrLarge
		}
		return c.enter(path, func() (int, api.Errno) {
			x.Links++
			return i, c.table.Put(c.op, i, x)
		})
	}, old, path)
}

// Rename lets a path name what old names, and old nothing.
func (s *FS) Rename(old, path string) api.Errno {
	return s.run(func(c *call) api.Errno {
		if old == root || path == root {
			return api.ErrBusy
		}
		from, i, e := c.taken(old)
		if e != api.OK {
			return e
		}
		if above, _ := walk.Above(old, path); above && old != path {
			return api.ErrArg
		}
		to, there, e := c.seek(path)
		// One path, or two names of one file.
		if e != api.OK || there == i {
			return e
		}
		if e = c.fits(i, path); e != api.OK {
			return e
		}
		if there == 0 {
			return c.move(from, to, i)
		}
		return c.replace(from, to, i, there)
	}, old, path)
}

// move lets a name that is new stand for inode i, in place of another one. That one goes first: both may be names of a directory that has room for no more.
func (c *call) move(from, to place, i int) api.Errno {
	if e := dir.Remove(c.op, c.table, c.plan, from.dir, from.name); e != api.OK {
		return e
	}
	return c.insert(to, i)
}

// replace lets a name of inode there stand for inode i, in place of another one.
func (c *call) replace(from, to place, i, there int) api.Errno {
	x, e := c.table.Get(c.op, i)
	if e != api.OK {
		return e
	}
	y, e := c.table.Get(c.op, there)
	if e != api.OK {
		return e
	}
	if e = c.yields(there, y, x.Kind); e != api.OK {
		return e
	}
	if e = dir.Set(c.op, c.table, c.plan, to.dir, to.name, i); e != api.OK {
		return e
	}
	if e = dir.Remove(c.op, c.table, c.plan, from.dir, from.name); e != api.OK {
		return e
	}
	return c.lose(there, y)
}

// Unlink lets the name of a file be gone.
func (s *FS) Unlink(path string) api.Errno {
	return s.run(func(c *call) api.Errno {
		if path == root {
			return api.ErrIsDir
		}
		return c.remove(path, func(i int, x api.Inode) api.Errno {
			switch {
			case x.Kind == api.KindDir:
				return api.ErrIsDir
			case c.holds(i, x):
				return api.ErrBusy
			}
			return api.OK
		})
	}, path)
}

// Rmdir lets a directory without names be gone.
func (s *FS) Rmdir(path string) api.Errno {
	return s.run(func(c *call) api.Errno {
		if path == root {
			return api.ErrBusy
		}
		return c.remove(path, func(_ int, x api.Inode) api.Errno {
			switch {
			case x.Kind == api.KindFile:
				return api.ErrNotDir
			case x.Size > 0:
				return api.ErrNotEmpty
			}
			return api.OK
		})
	}, path)
}

// Stat tells of the file or the directory that a path names.
func (s *FS) Stat(path string) (api.Stat, api.Errno) {
	return ask(s, func(c *call) (api.Stat, api.Errno) {
		i, x, e := c.look(path)
		return api.Stat{Kind: x.Kind, Inode: i, Links: x.Links, Size: x.Size}, e
	}, path)
}

// List answers the names in a directory, rising.
func (s *FS) List(path string) ([]api.Entry, api.Errno) {
	return ask(s, func(c *call) ([]api.Entry, api.Errno) {
		i, e := c.find(path)
		if e != api.OK {
			return nil, e
		}
		names, e := dir.List(c.op, c.table, c.plan, i)
		if e != api.OK {
			return nil, e
		}
		var list []api.Entry
		for _, name := range names {
			x, e := c.table.Get(c.op, name.Inode)
			if e != api.OK {
				return nil, e
			}
			list = append(list, api.Entry{Name: name.Name, Kind: x.Kind, Inode: name.Inode})
		}
		return list, api.OK
	}, path)
}
