package tree_test

import (
	"fmt"
	"maps"
	"regexp"
	"slices"
	"strings"

	"skerry/api"
	"skerry/need"
)

// call is one call on a tree that has paths or handles.
type call struct {
	name      string
	old, path string
	f, at, n  int
	data      string
}

func (c call) String() string {
	return fmt.Sprintf("%s %.220q %.220q, handle %d, at %d, n %d, %d bytes %.40q", c.name, c.old, c.path, c.f, c.at, c.n, len(c.data), c.data)
}

// answer is all that a call answers; what a call does not have is 0.
type answer struct {
	e    api.Errno
	f    int
	stat api.Stat
	list []api.Entry
	data string
}

func (a answer) same(b answer) bool {
	return a.e == b.e && a.f == b.f && a.stat == b.stat && slices.Equal(a.list, b.list) && a.data == b.data
}

// parse answers the call that a line tells: its name, then its paths, or its handle, numbers and text.
func parse(line string) call {
	words := strings.Fields(line)
	c := call{name: words[0]}
	number := func(i int) (n int) {
		if _, err := fmt.Sscan(words[i], &n); err != nil {
			panic(line)
		}
		return n
	}
	switch c.name {
	case "link", "rename":
		c.old, c.path = words[1], words[2]
	case "close":
		c.f = number(1)
	case "truncate":
		c.f, c.n = number(1), number(2)
	case "read":
		c.f, c.at, c.n = number(1), number(2), number(3)
	case "write":
		c.f, c.at = number(1), number(2)
		if len(words) > 3 {
			c.data = words[3]
		}
	default:
		c.path = words[1]
	}
	return c
}

// thing is a file or a directory of a model.
type thing struct {
	kind int
	data string
}

// model knows a tree by its paths alone: each one's number. It goes by the chapter's words, without care for time.
type model struct {
	most   int
	paths  map[string]int
	things map[int]thing
	open   [api.MaxOpen]int // 0 where a handle is not open
}

func newModel(most int) *model {
	return &model{most: most, paths: map[string]int{"/": 1}, things: map[int]thing{1: {kind: api.KindDir}}}
}

var pathForm = regexp.MustCompile(`^(/|(/[a-z0-9._-]{1,13}){1,16})$`)

// isPath answers whether a text is a path, as chapters 6 and 16 tell it.
func isPath(s string) bool {
	return len(s) <= 200 && pathForm.MatchString(s) && !strings.Contains(s+"/", "/./") && !strings.Contains(s+"/", "/../")
}

// up answers the parent of a path that is not /.
func up(path string) string {
	return path[:max(1, strings.LastIndex(path, "/"))]
}

// below answers whether path is below another one, by names.
func below(path, other string) bool {
	return path != other && strings.HasPrefix(path, strings.TrimSuffix(other, "/")+"/")
}

// walk answers what a path names.
func (m *model) walk(path string) (int, api.Errno) {
	for end := 1; end <= len(path); end++ {
		if end < len(path) && path[end] != '/' {
			continue
		}
		i, there := m.paths[path[:end]]
		if !there {
			return 0, api.ErrNone
		}
		if end < len(path) && m.things[i].kind == api.KindFile {
			return 0, api.ErrNotDir
		}
	}
	return m.paths[path], api.OK
}

// walkUp walks the parent of a path, in which a name is asked for.
func (m *model) walkUp(path string) api.Errno {
	i, e := m.walk(up(path))
	if e == api.OK && m.things[i].kind == api.KindFile {
		return api.ErrNotDir
	}
	return e
}

// links answers how many paths name a number.
func (m *model) links(i int) int {
	n := 0
	for _, to := range m.paths {
		if to == i {
			n++
		}
	}
	return n
}

// names answers the paths of all names in a directory, by bytes.
func (m *model) names(path string) []string {
	var list []string
	for other := range m.paths {
		if other != "/" && up(other) == path {
			list = append(list, other)
		}
	}
	slices.Sort(list)
	return list
}

// stat tells of what a path names.
func (m *model) stat(path string) api.Stat {
	i := m.paths[path]
	return api.Stat{Kind: m.things[i].kind, Inode: i, Links: m.links(i), Size: len(m.things[i].data) + 16*len(m.names(path))}
}

// nodes answers what Dump should answer: paths in the order of their names.
func (m *model) nodes() []api.Node {
	byNames := func(a, b string) int {
		return slices.Compare(strings.Split(a, "/")[1:], strings.Split(b, "/")[1:])
	}
	var list []api.Node
	for _, path := range slices.SortedFunc(maps.Keys(m.paths), byNames) {
		s := m.stat(path)
		list = append(list, api.Node{Path: path, Kind: s.Kind, Inode: s.Inode, Links: s.Links, Size: s.Size, Data: []byte(m.things[s.Inode].data)})
	}
	return list
}

// need answers what need.Tree says of all that there is, or the error.
func (m *model) need(p api.Plan) (complex128, api.Errno) {
	var files, dirs []int
	met := map[int]bool{}
	for path, i := range m.paths {
		if x := m.things[i]; x.kind == api.KindDir {
			dirs = append(dirs, len(m.names(path)))
		} else if !met[i] {
			met[i] = true
			files = append(files, len(x.data))
		}
	}
	return need.Tree(p, files, dirs)
}

// enter lets a path name number i.
func (m *model) enter(path string, i int) api.Errno {
	if path == "/" {
		return api.ErrExists
	}
	if e := m.walkUp(path); e != api.OK {
		return e
	}
	if _, there := m.paths[path]; there {
		return api.ErrExists
	}
	m.paths[path] = i
	return api.OK
}

// born lets a path name something new.
func (m *model) born(path string, kind int) api.Errno {
	i := 2
	for m.things[i].kind != api.KindFree {
		i++
	}
	e := m.enter(path, i)
	if e == api.OK {
		m.things[i] = thing{kind: kind}
	}
	return e
}

// drop lets a path be gone.
func (m *model) drop(path string) {
	i := m.paths[path]
	delete(m.paths, path)
	if m.links(i) == 0 {
		delete(m.things, i)
	}
}

// busy answers whether a path is an open file's last name.
func (m *model) busy(path string) bool {
	i := m.paths[path]
	return m.things[i].kind == api.KindFile && m.links(i) == 1 && slices.Contains(m.open[:], i)
}

func (m *model) link(old, path string) api.Errno {
	i, e := m.walk(old)
	switch {
	case e != api.OK:
		return e
	case m.things[i].kind == api.KindDir:
		return api.ErrIsDir
	case m.links(i) == 65535:
		return api.ErrLarge
	}
	return m.enter(path, i)
}

func (m *model) unlink(path string) api.Errno {
	i, e := m.walk(path)
	switch {
	case path == "/":
		return api.ErrIsDir
	case e != api.OK:
		return e
	case m.things[i].kind == api.KindDir:
		return api.ErrIsDir
	case m.busy(path):
		return api.ErrBusy
	}
	m.drop(path)
	return api.OK
}

func (m *model) rmdir(path string) api.Errno {
	i, e := m.walk(path)
	switch {
	case path == "/":
		return api.ErrBusy
	case e != api.OK:
		return e
	case m.things[i].kind == api.KindFile:
		return api.ErrNotDir
	case len(m.names(path)) > 0:
		return api.ErrNotEmpty
	}
	m.drop(path)
	return api.OK
}

func (m *model) rename(old, path string) api.Errno {
	if old == "/" || path == "/" {
		return api.ErrBusy
	}
	i, e := m.walk(old)
	if e != api.OK {
		return e
	}
	if below(path, old) {
		return api.ErrArg
	}
	if e := m.walkUp(path); e != api.OK {
		return e
	}
	j, there := m.paths[path]
	if i == j {
		return api.OK
	}
	moved := map[string]string{old: path}
	for other := range m.paths {
		if below(other, old) {
			moved[other] = path + other[len(old):]
		}
	}
	for _, now := range moved {
		if !isPath(now) {
			return api.ErrName
		}
	}
	switch was, is := m.things[j].kind, m.things[i].kind; {
	case !there:
	case was == api.KindFile && is == api.KindDir:
		return api.ErrNotDir
	case was == api.KindDir && is == api.KindFile:
		return api.ErrIsDir
	case len(m.names(path)) > 0:
		return api.ErrNotEmpty
	case m.busy(path):
		return api.ErrBusy
	default:
		m.drop(path)
	}
	was := maps.Clone(m.paths)
	for other := range moved {
		delete(m.paths, other)
	}
	for other, now := range moved {
		m.paths[now] = was[other]
	}
	return api.OK
}

// opened opens a path.
func (m *model) opened(path string) (int, api.Errno) {
	i, e := m.walk(path)
	if e != api.OK {
		return 0, e
	}
	if m.things[i].kind == api.KindDir {
		return 0, api.ErrIsDir
	}
	for f, to := range m.open {
		if to == 0 {
			m.open[f] = i
			return f, api.OK
		}
	}
	return 0, api.ErrMany
}

// io is a call with a handle.
func (m *model) io(c call) (a answer) {
	if c.f < 0 || c.f > 15 || m.open[c.f] == 0 {
		return answer{e: api.ErrHandle}
	}
	i := m.open[c.f]
	text := m.things[i].data
	switch c.name {
	case "close":
		m.open[c.f] = 0
	case "read":
		if c.at < 0 || c.n < 0 {
			return answer{e: api.ErrArg}
		}
		if c.n > 4096 {
			return answer{e: api.ErrLarge}
		}
		for k := 0; k < c.n && c.at < len(text)-k; k++ {
			a.data += text[c.at+k : c.at+k+1]
		}
	case "write":
		if c.at < 0 {
			return answer{e: api.ErrArg}
		}
		if len(c.data) > 4096 || c.at > m.most || c.at+len(c.data) > m.most {
			return answer{e: api.ErrLarge}
		}
		if c.data != "" {
			long := text + strings.Repeat("\x00", max(0, c.at+len(c.data)-len(text)))
			m.things[i] = thing{api.KindFile, long[:c.at] + c.data + long[c.at+len(c.data):]}
		}
	case "truncate":
		if c.n < 0 {
			return answer{e: api.ErrArg}
		}
		if c.n > m.most {
			return answer{e: api.ErrLarge}
		}
		m.things[i] = thing{api.KindFile, (text + strings.Repeat("\x00", max(0, c.n-len(text))))[:c.n]}
	}
	return a
}

// do answers what a call should answer, and does it.
func (m *model) do(c call) (a answer) {
	switch c.name {
	case "close", "read", "write", "truncate":
		return m.io(c)
	case "link", "rename":
		if !isPath(c.old) {
			return answer{e: api.ErrName}
		}
	}
	if !isPath(c.path) {
		return answer{e: api.ErrName}
	}
	switch c.name {
	case "create":
		a.e = m.born(c.path, api.KindFile)
	case "mkdir":
		a.e = m.born(c.path, api.KindDir)
	case "link":
		a.e = m.link(c.old, c.path)
	case "rename":
		a.e = m.rename(c.old, c.path)
	case "unlink":
		a.e = m.unlink(c.path)
	case "rmdir":
		a.e = m.rmdir(c.path)
	case "open":
		a.f, a.e = m.opened(c.path)
	case "stat":
		if _, a.e = m.walk(c.path); a.e == api.OK {
			a.stat = m.stat(c.path)
		}
	case "list":
		a.list, a.e = m.listed(c.path)
	default:
		panic(c.name)
	}
	return a
}

// listed lists a directory.
func (m *model) listed(path string) ([]api.Entry, api.Errno) {
	i, e := m.walk(path)
	if e != api.OK {
		return nil, e
	}
	if m.things[i].kind == api.KindFile {
		return nil, api.ErrNotDir
	}
	var list []api.Entry
	for _, other := range m.names(path) {
		j := m.paths[other]
		list = append(list, api.Entry{Name: other[strings.LastIndex(other, "/")+1:], Kind: m.things[j].kind, Inode: j})
	}
	return list, api.OK
}
