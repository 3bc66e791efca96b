package walk_test

import (
	"regexp"
	"slices"
	"strings"
	"testing"

	"skerry/api"
)

// dice are numbers that look like chance, the same ones each time.
type dice uint64

func (x *dice) below(n int) int {
	*x = *x*6364136223846793005 + 1442695040888963407
	return int(uint64(*x)>>33) % n
}

func (x *dice) mix(list []string) {
	for i := len(list) - 1; i > 0; i-- {
		j := x.below(i + 1)
		list[i], list[j] = list[j], list[i]
	}
}

// text answers at most most bytes out of some.
func (x *dice) text(some string, most int) string {
	b := make([]byte, x.below(most+1))
	for i := range b {
		b[i] = some[x.below(len(some))]
	}
	return string(b)
}

// names answers lists of names, most of which make a path; the texts in them may be no names.
func (x *dice) names() []string {
	list := make([]string, x.below([]int{3, 6, 18}[x.below(3)]))
	letters := []string{"a", "ab", "a-./b", "abz09._-", "a-."}[x.below(5)]
	most := []int{1, 2, 3, 13, 14}[x.below(5)]
	for i := range list {
		list[i] = x.text(letters, most)
		if list[i] == "" && x.below(8) > 0 {
			list[i] = letters[:1]
		}
	}
	if len(list) > 0 && x.below(20) == 0 {
		list[x.below(len(list))] = []string{"", ".", "..", "A", "/", "\x00", "\xff", thirteen + "n"}[x.below(8)]
	}
	return list
}

// path answers a text that may be a path.
func (x *dice) path() string {
	s := "/" + strings.Join(x.names(), "/")
	if x.below(20) == 0 {
		at := x.below(len(s))
		return s[:at] + string([]byte{byte(x.below(256))}) + s[at+1:]
	}
	return s
}

var pathForm = regexp.MustCompile(`\A(/|(/[a-z0-9._-]{1,13}){1,16})\z`)

// isPath goes by a form, and looks for the two names that it lets through by themselves.
func isPath(s string) bool {
	return len(s) <= 200 && pathForm.MatchString(s) && !strings.Contains(s+"/", "/./") && !strings.Contains(s+"/", "/../")
}

// partsOf answers the names of a path.
func partsOf(path string) []string {
	if path == "/" {
		return nil
	}
	return strings.Split(path, "/")[1:]
}

// isAbove puts a / behind both paths, so that names end where texts do.
func isAbove(a, b string) bool {
	return a == "/" || strings.HasPrefix(b+"/", a+"/")
}

// ahead answers whether path a stands ahead of path b in the order.
func ahead(a, b string) bool {
	p, q := partsOf(a), partsOf(b)
	for i := range min(len(p), len(q)) {
		if p[i] != q[i] {
			return p[i] < q[i]
		}
	}
	return len(p) < len(q)
}

// ordered puts each path in its place, one after the other.
func ordered(paths []string) ([]string, api.Errno) {
	var out []string
	for _, s := range paths {
		if !isPath(s) {
			return nil, api.ErrName
		}
		at := 0
		for at < len(out) && ahead(out[at], s) {
			at++
		}
		if at == len(out) || out[at] != s {
			out = slices.Insert(out, at, s)
		}
	}
	return out, api.OK
}

// checkText holds what all calls with one text answer against what the chapter says.
func checkText(t *testing.T, s string) {
	t.Helper()
	if !isPath(s) {
		wantSplit(t, s, nil, api.ErrName)
		wantParent(t, s, "", "", api.ErrName)
		wantOrder(t, []string{"/", s}, nil, api.ErrName)
		wantAbove(t, "/", s, false, api.ErrName)
		wantAbove(t, s, "/", false, api.ErrName)
		return
	}
	names := partsOf(s)
	wantSplit(t, s, names, api.OK)
	wantJoin(t, names, s, api.OK)
	wantAbove(t, s, s, true, api.OK)
	wantAbove(t, "/", s, true, api.OK)
	wantAbove(t, s, "/", s == "/", api.OK)
	if s == "/" {
		wantParent(t, s, "", "", api.ErrArg)
		return
	}
	wantOrder(t, []string{s, "/"}, []string{"/", s}, api.OK)
	at := strings.LastIndex(s, "/")
	wantParent(t, s, s[:max(at, 1)], s[at+1:], api.OK)
}

// checkNames holds what Join answers of a list against what the chapter says, and Split as its way back.
func checkNames(t *testing.T, names []string) {
	t.Helper()
	path := "/" + strings.Join(names, "/")
	if !isPath(path) || slices.ContainsFunc(names, func(s string) bool { return s == "" || strings.Contains(s, "/") }) {
		wantJoin(t, names, "", api.ErrName)
		return
	}
	wantJoin(t, names, path, api.OK)
	wantSplit(t, path, names, api.OK)
}

// TestShortTexts: P16.1 and P16.2, all texts of at most six bytes out of five.
func TestShortTexts(t *testing.T) {
	var grow func(s string)
	grow = func(s string) {
		checkText(t, s)
		if len(s) < 6 {
			for _, c := range "/.a-A" {
				grow(s + string(c))
			}
		}
	}
	grow("")
}

// TestShortLists: P16.1, all lists of at most four texts out of some.
func TestShortLists(t *testing.T) {
	some := []string{"", "a", "b-", ".", "..", "...", "/", "a/b", "/a", "A", "\x80", thirteen, thirteen + "n"}
	var grow func(list []string)
	grow = func(list []string) {
		checkNames(t, list)
		if len(list) < 4 {
			for _, s := range some {
				grow(append(slices.Clip(list), s))
			}
		}
	}
	grow(nil)
}

// TestManyTexts: P16.1 and P16.2, texts of all bytes, of few bytes, and of names; the test counts how many are paths, so that it tells something of both.
func TestManyTexts(t *testing.T) {
	all := make([]byte, 256)
	for c := range all {
		all[c] = byte(c)
	}
	x := dice(1)
	count := map[bool]int{}
	for range 20000 {
		for _, s := range []string{x.text(string(all), 40), "/" + x.text(string(all), 4), x.text("/a.-", 12), "/" + x.text("/abcdefghijklmnop", 230), x.path()} {
			checkText(t, s)
			count[isPath(s)]++
		}
		names := x.names()
		checkNames(t, names)
	}
	if count[true] < 10000 || count[false] < 10000 {
		t.Error("paths, and no paths:", count)
	}
}

// TestManyPairs: P16.2, pairs of texts that begin in the same way.
func TestManyPairs(t *testing.T) {
	x := dice(2)
	count := map[string]int{}
	for range 40000 {
		a, b := x.path(), x.path()
		switch x.below(4) {
		case 0:
			b = a + b
		case 1:
			b = a + strings.TrimPrefix(b, "/")
		case 2:
			b = a[:x.below(len(a)+1)]
		}
		switch {
		case !isPath(a) || !isPath(b):
			wantAbove(t, a, b, false, api.ErrName)
			wantAbove(t, b, a, false, api.ErrName)
			count["no path"]++
		default:
			wantAbove(t, a, b, isAbove(a, b), api.OK)
			wantAbove(t, b, a, isAbove(b, a), api.OK)
			if isAbove(a, b) {
				count["above"]++
			} else {
				count["apart"]++
			}
		}
	}
	for _, kind := range []string{"no path", "above", "apart"} {
		if count[kind] < 2000 {
			t.Error(kind+":", count[kind])
		}
	}
}

// TestManyLists: P16.3, lists of texts, some of them more than once, some of them no paths.
func TestManyLists(t *testing.T) {
	x := dice(3)
	count := map[api.Errno]int{}
	for range 6000 {
		var list []string
		wrong := x.below(4) == 0
		for range x.below(20) {
			if s := x.path(); wrong || isPath(s) {
				list = append(list, s)
			}
			if len(list) > 0 && x.below(4) == 0 {
				list = append(list, list[x.below(len(list))])
			}
		}
		want, e := ordered(list)
		count[e]++
		wantOrder(t, list, want, e)
		x.mix(list)
		wantOrder(t, list, want, e)
		for i, path := range want {
			for _, other := range want[:i] {
				wantAbove(t, path, other, false, api.OK)
			}
		}
	}
	if count[api.OK] < 1000 || count[api.ErrName] < 500 {
		t.Error("lists by error:", count)
	}
}
