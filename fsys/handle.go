package fsys

import (
	"slices"

	"skerry/api"
	"skerry/file"
	"skerry/plan"
)

// Open answers a handle that stands for the file of a path.
func (s *FS) Open(path string) (int, api.Errno) {
	i, e := ask(s, func(c *call) (int, api.Errno) {
		i, x, e := c.look(path)
		if e == api.OK && x.Kind == api.KindDir {
			e = api.ErrIsDir
		}
		return i, e
	}, path)
	if e != api.OK {
		return 0, e
	}
	f := slices.Index(s.open[:], 0)
	if f < 0 {
		return 0, api.ErrMany
	}
	s.open[f] = i
	return f, api.OK
}

// Close lets a handle stand for nothing.
func (s *FS) Close(f int) api.Errno {
	return s.run(func(c *call) api.Errno {
		if _, e := c.file(f); e != api.OK {
			return e
		}
		c.open[f] = 0
		return api.OK
	})
}

// Read answers n bytes of an open file from at on, or as many as there are.
func (s *FS) Read(f, at, n int) ([]byte, api.Errno) {
	return ask(s, func(c *call) ([]byte, api.Errno) {
		i, e := c.file(f)
		if e != api.OK {
			return nil, e
		}
		return file.Read(c.op, c.table, c.plan, i, at, n)
	})
}

// Write lets data stand in an open file from at on.
func (s *FS) Write(f, at int, data []byte) api.Errno {
	return s.run(func(c *call) api.Errno {
		i, e := c.file(f)
		if e != api.OK {
			return e
		}
		return file.Write(c.op, c.table, c.plan, i, at, data)
	})
}

// Truncate lets an open file have that many bytes.
func (s *FS) Truncate(f, size int) api.Errno {
	return s.run(func(c *call) api.Errno {
		i, e := c.file(f)
		if e != api.OK {
			return e
		}
		return file.Truncate(c.op, c.table, c.plan, i, size)
	})
}

// Fsync lets all names and sizes arrive, and the bytes of an open file.
func (s *FS) Fsync(f int) api.Errno {
	if _, e := s.file(f); e != api.OK {
		return e
	}
	return s.alive(s.group.Commit)
}

// Fdatasync lets the bytes of an open file arrive, and its Size.
func (s *FS) Fdatasync(f int) api.Errno {
	i, e := s.file(f)
	if e != api.OK {
		return e
	}
	var data, ways []int
	e = s.run(func(c *call) (e api.Errno) {
		if data, e = file.Dirty(c.op, c.table, i); e != api.OK {
			return e
		}
		ways, e = c.ways(i)
		return e
	})
	if e != api.OK {
		return e
	}
	return s.alive(func() api.Errno {
		waits := s.group.Blocks()
		// Without what leads to them the bytes would not be found behind a crash.
		if slices.ContainsFunc(ways, func(b int) bool { return slices.Contains(waits, b) }) {
			return s.group.Commit()
		}
		return s.group.Out(data)
	})
}

// Sync lets all that calls have done arrive.
func (s *FS) Sync() api.Errno {
	if s.isNone() {
		return api.ErrArg
	}
	return s.alive(s.group.Settle)
}

// file answers the inode of the file that a handle stands for.
func (s *FS) file(f int) (int, api.Errno) {
	if s.isNone() {
		return 0, api.ErrArg
	}
	if f < 0 || f >= api.MaxOpen || s.open[f] == 0 {
		return 0, api.ErrHandle
	}
	return s.open[f], api.OK
}

// ways answers the blocks that lead to the bytes of inode i: where it stands itself, and those with its pointers.
func (c *call) ways(i int) ([]int, api.Errno) {
	at, _, e := plan.Place(c.plan, i)
	if e != api.OK {
		return nil, e
	}
	_, pointers, e := c.table.Blocks(c.op, i)
	if e != api.OK {
		return nil, e
	}
	return append(pointers, at), api.OK
}
