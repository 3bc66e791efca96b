package tree

import (
	"bytes"
	"maps"
	"slices"
	"strings"

	"skerry/api"
	"skerry/walk"
)

// root is the path of the directory that all paths begin with, rootNumber its number.
const (
	root       = "/"
	rootNumber = 1
)

// nameSize is how many bytes of a directory stand for a name.
const nameSize = 16

// mostLinks is how many names a file has at most.
const mostLinks = 65535

// thing is a file, that has data, or a directory, that has names.
type thing struct {
	kind, number, links int
	data                []byte
	names               map[string]*thing
}

// size answers the bytes of a file, or of a directory as it would stand on a device.
func (x *thing) size() int {
	return len(x.data) + nameSize*len(x.names)
}

// resize lets a file have size bytes: the first ones as they were, new ones 0.
func (x *thing) resize(size int) {
	if size < len(x.data) {
		// A copy: what is cut off is kept no longer.
		x.data = bytes.Clone(x.data[:size])
		return
	}
	x.data = append(x.data, make([]byte, size-len(x.data))...)
}

// rising answers the names in a directory.
func (x *thing) rising() []string {
	return slices.Sorted(maps.Keys(x.names))
}

// each hands x, at its path, and all that is below it to visit, in the order of walk.Order, till visit answers false. It answers whether that never was so.
func (x *thing) each(path string, visit func(path string, x *thing) bool) bool {
	if !visit(path, x) {
		return false
	}
	for _, name := range x.rising() {
		if !x.names[name].each(strings.TrimSuffix(path, root)+"/"+name, visit) {
			return false
		}
	}
	return true
}

// fits answers whether all that is below x would have paths, if x had this one.
func (x *thing) fits(path string) bool {
	return x.each(path, func(path string, _ *thing) bool {
		_, e := walk.Split(path)
		return e == api.OK
	})
}
