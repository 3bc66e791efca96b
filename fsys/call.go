package fsys

import (
	"skerry/api"
	"skerry/group"
	"skerry/walk"
)

// call is one call on a file system, that is one operation.
type call struct {
	*FS
	op *group.Op
}

// run lets work be one call, that has these paths.
func (s *FS) run(work func(c *call) api.Errno, paths ...string) api.Errno {
	if s.isNone() {
		return api.ErrArg
	}
	return s.alive(func() api.Errno {
		for _, path := range paths {
			if _, e := walk.Split(path); e != api.OK {
				return e
			}
		}
		return s.operate(work)
	})
}

// ask lets work be one call, and answers what that does; beside an error nothing.
func ask[T any](s *FS, work func(c *call) (T, api.Errno), paths ...string) (T, api.Errno) {
	var answer, none T
	e := s.run(func(c *call) (e api.Errno) {
		answer, e = work(c)
		return e
	}, paths...)
	if e != api.OK {
		return none, e
	}
	return answer, api.OK
}

// operate lets work be one operation. One that finds no space has done nothing; it is run again behind a commit, as long as that may give some.
func (s *FS) operate(work func(c *call) api.Errno) api.Errno {
again:
	o, e := s.group.Begin()
	if e != api.OK {
		return e
	}
	if e = work(&call{s, o}); e == api.OK {
		e = o.End()
	} else {
		o.Abort()
	}
	if e == api.ErrNoSpace && s.keeps() {
		if e = s.group.Settle(); e == api.OK {
			goto again
		}
	}
	return e
}

// keeps answers whether blocks may be kept that were given back: behind a Settle none are.
func (s *FS) keeps() bool {
	return len(s.group.Blocks()) > 0 || s.log.Room() < s.plan.Log
}

// alive lets do be done, unless the device is dead, or was so in an earlier call.
func (s *FS) alive(do func() api.Errno) api.Errno {
	s.dead = s.dead || s.device.Dead()
	if s.dead {
		return api.ErrDead
	}
	e := do()
	s.dead = e == api.ErrDead
	return e
}
