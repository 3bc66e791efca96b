package tree_test

import (
	"fmt"
	"strings"
	"testing"

	"skerry/api"
)

// wrongHandles are numbers for which no handle is ever open.
var wrongHandles = []int{-1, -2, -16, least, least + 1, 16, 17, 32, 256, 1 << 32, most - 1, most}

// TestOpen: P18.7, handles from 0 to 15, the least one that is not open first, of one file and of several.
func TestOpen(t *testing.T) {
	w := begun(t, 1000, "create /a", "create /b", "mkdir /d", "create /d/c")
	paths := []string{"/a", "/b", "/a", "/d/c"}
	for f := range api.MaxOpen {
		if got := w.want("open "+paths[f%4], api.OK).f; got != f {
			t.Errorf("Open: %d, should be %d", got, f)
		}
	}
	for range 2 {
		w.want("open /a", api.ErrMany)
		w.want("open /d/c", api.ErrMany)
		// What comes ahead of that.
		w.want("open /d", api.ErrIsDir)
		w.want("open /", api.ErrIsDir)
		w.want("open /none", api.ErrNone)
		w.want("open /a/x", api.ErrNotDir)
		w.want("open /A", api.ErrName)
	}
	// The least one behind a Close, in whatever order they are closed.
	w.ok("close 9", "close 3", "close 12")
	for _, f := range []int{3, 9, 12} {
		if got := w.want("open /b", api.OK).f; got != f {
			t.Errorf("Open: %d, should be %d", got, f)
		}
	}
	w.want("open /b", api.ErrMany)
	for f := range api.MaxOpen {
		w.ok(fmt.Sprint("close ", f))
		w.want(fmt.Sprint("close ", f), api.ErrHandle)
		if got := w.want("open /d/c", api.OK).f; got != f {
			t.Errorf("Open: %d, should be %d", got, f)
		}
	}
	w.want("open /d", api.ErrIsDir)
}

// TestClose: P18.7 and P18.8, handles that are not open, in all calls with one, ahead of all else that is amiss.
func TestClose(t *testing.T) {
	w := begun(t, 1000, "create /a")
	closed := func(f int) {
		t.Helper()
		for _, c := range []call{
			{name: "close"}, {name: "read"}, {name: "read", n: 5}, {name: "read", at: -1}, {name: "read", n: -1}, {name: "read", n: 4097}, {name: "read", n: most},
			{name: "write"}, {name: "write", data: "x"}, {name: "write", at: -1, data: "x"}, {name: "write", at: most}, {name: "write", at: 1000, data: "x"}, {name: "write", data: strings.Repeat("x", 4097)},
			{name: "truncate"}, {name: "truncate", n: 5}, {name: "truncate", n: -1}, {name: "truncate", n: 1001}, {name: "truncate", n: most},
		} {
			c.f = f
			w.call(c, api.ErrHandle)
		}
	}
	for f := range api.MaxOpen {
		closed(f)
	}
	for _, f := range wrongHandles {
		closed(f)
	}
	w.ok("open /a", "open /a", "open /a", "write 1 0 text", "close 1")
	closed(1)
	closed(3)
	for _, f := range wrongHandles {
		closed(f)
	}
	w.read(0, "text")
	w.read(2, "text")
	w.ok("close 0", "close 2")
	closed(0)
	closed(2)
	// The file has what was written.
	w.ok("open /a")
	w.read(0, "text")
}

// TestRead: P18.8, bytes from a place on, as many as are asked for or as there are.
func TestRead(t *testing.T) {
	w := begun(t, 9000, "create /a", "open /a", "create /b", "open /b", "write 0 0 abcdefghij")
	for _, r := range []struct {
		at, n  int
		wanted string
	}{
		{0, 0, ""}, {0, 1, "a"}, {0, 9, "abcdefghi"}, {0, 10, "abcdefghij"}, {0, 11, "abcdefghij"}, {0, 4096, "abcdefghij"}, {3, 4, "defg"}, {9, 1, "j"}, {9, 2, "j"}, {9, 0, ""}, {10, 0, ""}, {10, 1, ""}, {11, 0, ""}, {11, 4096, ""}, {9000, 1, ""}, {9001, 1, ""}, {most, 0, ""}, {most, 1, ""}, {most, 4096, ""}, {most - 4096, 4096, ""}, {most - 4095, 4096, ""},
	} {
		if got := w.call(call{name: "read", at: r.at, n: r.n}, api.OK).data; got != r.wanted {
			t.Errorf("Read at %d of %d: %q, should be %q", r.at, r.n, got, r.wanted)
		}
		if got := w.call(call{name: "read", f: 1, at: r.at, n: r.n}, api.OK).data; got != "" {
			t.Errorf("Read at %d of %d, of a file without bytes: %q", r.at, r.n, got)
		}
	}
	for _, r := range []struct {
		at, n int
		e     api.Errno
	}{
		{-1, 0, api.ErrArg}, {-1, 1, api.ErrArg}, {least, 4096, api.ErrArg}, {0, -1, api.ErrArg}, {0, least, api.ErrArg}, {-1, -1, api.ErrArg}, {least, least, api.ErrArg}, {10, -1, api.ErrArg}, {most, -1, api.ErrArg}, {most, least, api.ErrArg},
		{-1, 4097, api.ErrArg}, {-1, most, api.ErrArg}, {least, most, api.ErrArg},
		{0, 4097, api.ErrLarge}, {0, most, api.ErrLarge}, {10, 4097, api.ErrLarge}, {most, 4097, api.ErrLarge}, {most, most, api.ErrLarge}, {9000, 5000, api.ErrLarge},
	} {
		w.call(call{name: "read", at: r.at, n: r.n}, r.e)
		w.call(call{name: "read", f: 1, at: r.at, n: r.n}, r.e)
	}
	// A file of more bytes than one Read answers.
	long := strings.Repeat("0123456789abcdef", 500)
	w.call(call{name: "write", f: 1, data: long[:4096]}, api.OK)
	w.call(call{name: "write", f: 1, at: 4096, data: long[4096:]}, api.OK)
	w.read(1, long)
	if got := w.want("read 1 5 4096", api.OK).data; got != long[5:4101] {
		t.Errorf("Read: %q", got)
	}
	if got := w.want("read 1 4000 4096", api.OK).data; got != long[4000:] {
		t.Errorf("Read: %q", got)
	}
}

// TestWrite: P18.8, bytes stand where they were written, those between the old end and them are 0, all others as they were.
func TestWrite(t *testing.T) {
	w := begun(t, 9000, "create /a", "open /a")
	w.ok("write 0 0 abc")
	w.read(0, "abc")
	w.ok("write 0 1 X")
	w.read(0, "aXc")
	w.ok("write 0 2 YZ")
	w.read(0, "aXYZ")
	w.ok("write 0 4 !")
	w.read(0, "aXYZ!")
	w.ok("write 0 8 end")
	w.read(0, "aXYZ!\x00\x00\x00end")
	w.ok("write 0 0 0123456789abcdef")
	w.read(0, "0123456789abcdef")
	w.stat("/a", api.KindFile, 2, 1, 16)
	// Without bytes nothing changes, behind the end too.
	for _, at := range []int{0, 3, 16, 17, 100, 8999, 9000} {
		w.call(call{name: "write", at: at}, api.OK)
		w.stat("/a", api.KindFile, 2, 1, 16)
	}
	w.call(call{name: "write", at: 20, data: "\x00"}, api.OK)
	w.read(0, "0123456789abcdef\x00\x00\x00\x00\x00")
	// A new file that begins with a hole.
	w.ok("create /b", "open /b", "write 1 5 x")
	w.read(1, "\x00\x00\x00\x00\x00x")
}

// TestWriteErrors: P18.8, places below 0, more bytes than MaxIO, and ends behind most.
func TestWriteErrors(t *testing.T) {
	long := strings.Repeat("x", 4097)
	for _, n := range []int{1, 2, 1000, 4095, 4096, 4097, 9000, api.MaxFile} {
		w := begun(t, n, "create /a", "open /a")
		size := min(n, 4096)
		for _, data := range []string{"", "x", long[:2], long[:size], long[:4095], long[:4096], long} {
			for _, at := range []int{-1, -4096, least, least + 1} {
				w.call(call{name: "write", at: at, data: data}, api.ErrArg)
			}
			for _, at := range []int{n - len(data) + 1, n + 1, 1 << 32, most - 4096, most - len(data), most - len(data) + 1, most - 1, most} {
				if at >= 0 {
					w.call(call{name: "write", at: at, data: data}, api.ErrLarge)
				}
			}
		}
		w.call(call{name: "write", data: long}, api.ErrLarge)
		w.call(call{name: "write", at: most, data: long}, api.ErrLarge)
		w.call(call{name: "write", at: -1, data: long}, api.ErrArg)
		w.stat("/a", api.KindFile, 2, 1, 0)
		// Just to the end, with one byte and with as many as may be.
		w.call(call{name: "write", at: n}, api.OK)
		w.stat("/a", api.KindFile, 2, 1, 0)
		w.call(call{name: "write", at: n - 1, data: "e"}, api.OK)
		w.stat("/a", api.KindFile, 2, 1, n)
		w.call(call{name: "write", at: n - size, data: long[:size]}, api.OK)
		w.call(call{name: "write", at: n - size + 1, data: long[:size]}, api.ErrLarge)
		w.call(call{name: "write", data: long[:size]}, api.OK)
		w.stat("/a", api.KindFile, 2, 1, n)
	}
}

// TestTruncate: P18.8, the first bytes as they were, new ones 0, whatever stood there.
func TestTruncate(t *testing.T) {
	w := begun(t, 9000, "create /a", "open /a", "write 0 0 abcdefgh", "truncate 0 8")
	w.read(0, "abcdefgh")
	w.ok("truncate 0 5")
	w.read(0, "abcde")
	w.ok("truncate 0 7")
	w.read(0, "abcde\x00\x00")
	w.ok("truncate 0 4", "write 0 6 x")
	w.read(0, "abcd\x00\x00x")
	w.ok("truncate 0 1", "write 0 1 BC")
	w.read(0, "aBC")
	w.ok("truncate 0 0")
	w.read(0, "")
	w.stat("/a", api.KindFile, 2, 1, 0)
	w.ok("truncate 0 3")
	w.read(0, "\x00\x00\x00")
	w.ok("truncate 0 9000")
	w.read(0, strings.Repeat("\x00", 9000))
	w.ok("write 0 8996 tail", "truncate 0 8998", "truncate 0 9000")
	w.read(0, strings.Repeat("\x00", 8996)+"ta\x00\x00")
	for _, n := range []int{-1, -9000, least, least + 1} {
		w.call(call{name: "truncate", n: n}, api.ErrArg)
	}
	for _, n := range []int{9001, 9002, api.MaxFile, api.MaxFile + 1, 1 << 32, most - 1, most} {
		w.call(call{name: "truncate", n: n}, api.ErrLarge)
	}
	w.stat("/a", api.KindFile, 2, 1, 9000)
	// Truncate is not bounded by MaxIO, but by most alone.
	w = begun(t, api.MaxFile, "create /a", "open /a")
	for _, n := range []int{4096, 4097, 65536, api.MaxFile - 1, api.MaxFile, 1, api.MaxFile, 0} {
		w.call(call{name: "truncate", n: n}, api.OK)
		w.stat("/a", api.KindFile, 2, 1, n)
	}
	w.call(call{name: "truncate", n: api.MaxFile + 1}, api.ErrLarge)
}

// TestTwoHandles: P18.7 and P18.8, what is done by one handle is seen by each other one of the file, whatever name it was opened by, and by none of another file.
func TestTwoHandles(t *testing.T) {
	w := begun(t, 1000, "create /a", "link /a /b", "create /c", "open /a", "open /b", "open /a", "open /c", "write 0 0 text")
	for f := range 3 {
		w.read(f, "text")
	}
	w.read(3, "")
	w.ok("write 1 6 more", "truncate 2 8")
	for f := range 3 {
		w.read(f, "text\x00\x00mo")
	}
	w.ok("rename /a /d", "write 0 0 T", "unlink /b", "write 1 1 E", "rename /d /e", "write 2 2 X", "close 0")
	w.read(1, "TEXt\x00\x00mo")
	w.read(2, "TEXt\x00\x00mo")
	w.stat("/e", api.KindFile, 2, 1, 8)
	// A handle that is open anew stands for its new file.
	w.ok("open /c", "write 0 0 c", "close 1", "close 2")
	w.read(3, "c")
	w.ok("unlink /e", "create /e", "open /e")
	w.read(1, "")
}

// TestAppend: P18.8, a file that grows byte by byte, to the most that it may have.
func TestAppend(t *testing.T) {
	x := made(t, api.MaxFile)
	x.Create("/a")
	x.Open("/a")
	for at := range api.MaxFile {
		if e := x.Write(0, at, []byte{byte(at * 7 >> 3)}); e != api.OK {
			t.Fatal("Write: ", at, e)
		}
	}
	if e := x.Write(0, api.MaxFile, []byte{1}); e != api.ErrLarge {
		t.Error("Write: ", e)
	}
	for at := 0; at < api.MaxFile; at += api.MaxIO {
		data, e := x.Read(0, at, api.MaxIO)
		if len(data) != api.MaxIO || e != api.OK {
			t.Fatal("Read: ", at, len(data), e)
		}
		for i, b := range data {
			if b != byte((at+i)*7>>3) {
				t.Fatalf("byte %d is %d", at+i, b)
			}
		}
	}
}
