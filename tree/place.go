package tree

import (
	"skerry/api"
	"skerry/walk"
)

// place is where a name stands in a directory, or would.
type place struct {
	dir  *thing
	name string
}

// named answers what is named there, or nil.
func (p place) named() *thing {
	return p.dir.names[p.name]
}

// find walks a path.
func (t *Tree) find(path string) (*thing, api.Errno) {
	names, e := walk.Split(path)
	if e != api.OK {
		return nil, e
	}
	x := t.things[rootNumber]
	for _, name := range names {
		if x.kind == api.KindFile {
			return nil, api.ErrNotDir
		}
		if x = x.names[name]; x == nil {
			return nil, api.ErrNone
		}
	}
	return x, api.OK
}

// place walks the parent of a path, that is not /.
func (t *Tree) place(path string) (place, api.Errno) {
	up, name, e := walk.Parent(path)
	if e != api.OK {
		return place{}, e
	}
	dir, e := t.find(up)
	if e != api.OK {
		return place{}, e
	}
	if dir.kind == api.KindFile {
		return place{}, api.ErrNotDir
	}
	return place{dir, name}, api.OK
}

// taken walks a path, that is not /, and answers where its last name stands too.
func (t *Tree) taken(path string) (place, *thing, api.Errno) {
	p, e := t.place(path)
	if e != api.OK {
		return place{}, nil, e
	}
	x := p.named()
	if x == nil {
		return place{}, nil, api.ErrNone
	}
	return p, x, api.OK
}

// enter lets a new name stand for what bear answers, which is called only where nothing bars that any more.
func (t *Tree) enter(path string, bear func() *thing) api.Errno {
	if path == root {
		return api.ErrExists
	}
	p, e := t.place(path)
	if e != api.OK {
		return e
	}
	if p.named() != nil {
		return api.ErrExists
	}
	x := bear()
	x.links++
	p.dir.names[p.name] = x
	return api.OK
}

// remove lets a name, that is not /, be gone, unless refuses answers an error for what it names.
func (t *Tree) remove(path string, refuses func(x *thing) api.Errno) api.Errno {
	p, x, e := t.taken(path)
	if e != api.OK {
		return e
	}
	if e := refuses(x); e != api.OK {
		return e
	}
	t.drop(p)
	return api.OK
}

// drop lets a name that is there be gone, and what it names, if that was its last one.
func (t *Tree) drop(p place) {
	x := p.named()
	delete(p.dir.names, p.name)
	x.links--
	if x.links == 0 {
		t.things[x.number] = nil
		t.least = min(t.least, x.number)
	}
}
