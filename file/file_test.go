package file_test

import (
	"bytes"
	"fmt"
	"slices"
	"testing"

	"skerry/api"
	"skerry/file"
	"skerry/group"
)

// TestExample: the chapter's example.
func TestExample(t *testing.T) {
	p := planned(t, 64, 100, 10, 30)
	w := formatted(t, p, 4)
	o := w.begin()
	w.born(o, 2, api.KindFile)
	w.write(o, 2, 3, []byte("ab"))
	if size := w.get(o, 2).Size; size != 5 {
		t.Error("Size:", size)
	}
	w.wantRead(o, 2, 0, 10, []byte("\x00\x00\x00ab"))
	w.write(o, 2, 200, []byte("c"))
	data, pointers := w.blocks(o, 2)
	if len(data) != 4 || data[0] == 0 || data[1] != 0 || data[2] != 0 || data[3] == 0 || len(pointers) != 0 {
		t.Error("Blocks:", data, pointers)
	}
	list, e := file.Dirty(o, w.u, 2)
	if !slices.Equal(list, []int{data[0], data[3]}) || e != api.OK {
		t.Error("Dirty:", list, e)
	}
	w.truncate(o, 2, 4)
	w.truncate(o, 2, 6)
	w.wantRead(o, 2, 0, 10, []byte("\x00\x00\x00a\x00\x00"))
	if list, _ := file.Dirty(o, w.u, 2); !slices.Equal(list, data[:1]) {
		t.Error("Dirty:", list)
	}
}

// pair answers a world with inode 1 a file and inode 2 a directory, new ones both, and an operation on it.
func pair(t *testing.T, p api.Plan) (*world, *group.Op) {
	t.Helper()
	w := formatted(t, p, 3)
	o := w.begin()
	w.born(o, 1, api.KindFile)
	w.born(o, 2, api.KindDir)
	return w, o
}

// TestWriteEdges: P14.2, P14.1: bytes of each length at each edge of a new file, as a file and as a directory: what is written is read, all ahead of it is 0, and blocks are taken for what is written alone.
func TestWriteEdges(t *testing.T) {
	for _, p := range plans(t) {
		w, o := pair(t, p)
		w.end(o)
		for _, kind := range []int{api.KindFile, api.KindDir} {
			for _, at := range inFile(p, edges(p)) {
				for _, n := range lengths(p) {
					o := w.begin()
					s := newSheet(kind)
					data := text(n, at)
					free := w.free(o)
					taken, wanted := s.write(p, at, data, free)
					e := file.Write(o, w.u, p, kind, at, data)
					want(t, fmt.Sprint("Write of ", n, " at ", at), e, wanted)
					w.wantSheet(o, kind, s)
					w.wantSheet(o, 3-kind, newSheet(3-kind))
					if now := w.free(o); now != free-taken {
						t.Errorf("%d blocks were taken, should be %d", free-now, taken)
					}
					w.abort(o)
					if t.Failed() {
						t.Fatalf("%v: kind %d, %d bytes at %d", p, kind, n, at)
					}
				}
			}
		}
	}
}

// TestOverwrite: P14.2: bytes over others, within a file, over its end and behind it, change no other byte, and Size never falls.
func TestOverwrite(t *testing.T) {
	for _, p := range plans(t)[:4] {
		for _, kind := range []int{api.KindFile, api.KindDir} {
			for _, size := range []int{1, p.Block - 1, p.Block, p.Block + 1, 2*p.Block + 7, 9*p.Block + 3} {
				w, o := pair(t, p)
				first := newSheet(kind)
				for at := 0; at < size; at += 4096 {
					first.write(p, at, text(min(4096, size-at), 1), 9999)
					w.write(o, kind, at, text(min(4096, size-at), 1))
				}
				w.end(o)
				for _, at := range []int{0, 1, size / 2, size - 1, size, size + 1, size + p.Block - 1, size + p.Block, size + 3*p.Block} {
					for _, n := range lengths(p) {
						o := w.begin()
						s := first.clone()
						s.write(p, at, text(n, 2), 9999)
						w.write(o, kind, at, text(n, 2))
						w.wantSheet(o, kind, s)
						w.abort(o)
						if t.Failed() {
							t.Fatalf("%v: kind %d of %d bytes, %d at %d", p, kind, size, n, at)
						}
					}
				}
			}
		}
	}
}

// TestWriteNothing: P14.2: without bytes nothing changes, Size neither, wherever it is.
func TestWriteNothing(t *testing.T) {
	for _, p := range plans(t) {
		w, o := pair(t, p)
		w.write(o, 1, 5, text(10, 1))
		w.end(o)
		w.settle()
		for _, i := range []int{1, 2} {
			for _, at := range inFile(p, edges(p)) {
				o := w.begin()
				s := w.seen(o)
				for _, none := range [][]byte{nil, {}, text(9, 1)[:0], text(9, 1)[4:4]} {
					want(t, "Write", file.Write(o, w.u, p, i, at, none), api.OK)
				}
				w.wantSeen("a Write without bytes", o, s)
				w.wantNothing("a Write without bytes", o, nil, nil)
				if t.Failed() {
					t.Fatal(p, i, at)
				}
			}
		}
	}
}

// TestRead: P14.1: from every edge on, every length: the bytes from there on, or as many as there are.
func TestRead(t *testing.T) {
	for _, p := range plans(t)[:5] {
		for _, kind := range []int{api.KindFile, api.KindDir} {
			for _, size := range []int{0, 1, p.Block, 3*p.Block + 9, 8 * p.Block, (8 + p.Block/2) * p.Block, most(p) - 1, most(p)} {
				w, o := pair(t, p)
				s := newSheet(kind)
				// Some bytes at the beginning and some at the end, the rest is holes.
				for which, at := range []int{0, 1, p.Block, max(0, size-p.Block-3), max(0, size-3)} {
					if n := min(3, size-at); n > 0 {
						s.write(p, at, text(n, which), 9999)
						w.write(o, kind, at, text(n, which))
					}
				}
				places := append(edges(p), size/2, size-5, size-4, size-3, size-2, size-1, size, size+1)
				for _, at := range append(places, above...) {
					for _, n := range lengths(p) {
						wanted, e := s.read(at, n)
						if e != api.OK {
							continue
						}
						w.wantRead(o, kind, at, n, wanted)
					}
				}
				if t.Failed() {
					t.Fatalf("%v: kind %d, %d bytes", p, kind, size)
				}
			}
		}
	}
}

// TestReadChangesNothing: P14.1: Read takes no block and changes nothing, at holes and elsewhere; its answer is no more than the bytes, and new memory.
func TestReadChangesNothing(t *testing.T) {
	p := planned(t, 64, 200, 10, 90)
	w, o := pair(t, p)
	for _, i := range []int{1, 2} {
		for _, at := range []int{0, 300, 600, 3000, 9000} {
			w.write(o, i, at, text(70, at))
		}
	}
	for range 2 {
		s := w.seen(o)
		for _, i := range []int{1, 2} {
			for at := 0; at < 9100; at += 50 {
				for _, n := range []int{0, 1, 200, 4096} {
					once, e := file.Read(o, w.u, p, i, at, n)
					want(t, "Read", e, api.OK)
					kept := bytes.Clone(once)
					once = once[:cap(once)]
					for k := range once {
						once[k] ^= 0xff
					}
					w.wantRead(o, i, at, n, kept)
				}
			}
		}
		w.wantSeen("Read", o, s)
		w.end(o)
		w.settle()
		o = w.begin()
	}
	w.wantNothing("Read", o, nil, nil)
}

// TestFar: P14.2: a write far behind takes no block for what lies between.
func TestFar(t *testing.T) {
	for _, p := range plans(t) {
		for _, i := range []int{1, 2} {
			w, o := pair(t, p)
			w.write(o, i, 0, []byte("a"))
			for n, at := range []int{8*p.Block - 1, most(p) - 1} {
				ways := waysTo(p, at/p.Block)
				free := w.free(o)
				w.write(o, i, at, []byte("z"))
				if now := w.free(o); now != free-len(ways) {
					t.Errorf("%d blocks were taken, should be %d", free-now, len(ways))
				}
				list, e := file.Dirty(o, w.u, i)
				if len(list) != n+2 || e != api.OK {
					t.Error("Dirty:", list, e)
				}
				w.wantRead(o, i, at-9, 20, []byte("\x00\x00\x00\x00\x00\x00\x00\x00\x00z"))
			}
		}
	}
}

// dirt answers what stands behind Size of a file, written there past package file: its last block is full of it, and blocks behind that too.
func (w *world) dirt(o *group.Op, i int, numbers ...int) {
	w.t.Helper()
	x := w.get(o, i)
	for _, n := range numbers {
		b, _, e := w.u.Make(o, i, n)
		want(w.t, "Make", e, api.OK)
		data := bytes.Repeat([]byte{0xee}, w.p.Block)
		if keep := x.Size - n*w.p.Block; keep > 0 {
			was, e := o.Read(b)
			want(w.t, "Read", e, api.OK)
			copy(data, was[:min(keep, len(was))])
		}
		if x.Kind == api.KindDir {
			want(w.t, "Write", o.Write(b, data), api.OK)
		} else {
			want(w.t, "Data", o.Data(b, data), api.OK)
		}
	}
}

// TestBehindSize: P14.2, P14.3: bytes between the old Size and at, and those that Truncate makes, are 0, whatever stands behind Size in the file's last block, and in blocks behind that one.
func TestBehindSize(t *testing.T) {
	for _, p := range plans(t)[:4] {
		for _, kind := range []int{api.KindFile, api.KindDir} {
			for _, size := range []int{0, 1, p.Block - 1, p.Block, p.Block + 1, 7*p.Block + 5, 9*p.Block + 1} {
				w, o := pair(t, p)
				first := newSheet(kind)
				for at := 0; at < size; at += 4096 {
					first.write(p, at, text(min(4096, size-at), 1), 9999)
					w.write(o, kind, at, text(min(4096, size-at), 1))
				}
				w.end(o)
				last := size / p.Block
				for _, numbers := range [][]int{{last}, {last, last + 1}, {last + 2, last + 4}} {
					for _, at := range []int{size, size + 1, size + 5, size + p.Block, size + 2*p.Block, size + 3*p.Block + 3, size + 5*p.Block} {
						for _, n := range []int{1, 3, p.Block, 0} {
							o := w.begin()
							w.dirt(o, kind, numbers...)
							s := first.clone()
							if n == 0 {
								s.truncate(p, at)
								w.truncate(o, kind, at)
							} else {
								s.write(p, at, text(n, 2), 9999)
								w.write(o, kind, at, text(n, 2))
							}
							w.wantAll(o, kind, s.bytes)
							// And what comes behind that is 0 too.
							end := len(s.bytes)
							s.truncate(p, end+2*p.Block)
							w.truncate(o, kind, end+2*p.Block)
							w.wantAll(o, kind, s.bytes)
							w.abort(o)
							if t.Failed() {
								t.Fatalf("%v: kind %d of %d bytes, dirt in %v, %d at %d", p, kind, size, numbers, n, at)
							}
						}
					}
				}
			}
		}
	}
}

// TestTruncate: P14.3: from every size to every other and on to a third: the first bytes are as they were, new ones 0, and the blocks behind are given back.
func TestTruncate(t *testing.T) {
	for _, p := range plans(t)[:5] {
		w, o := pair(t, p)
		for _, i := range []int{1, 2} {
			for _, at := range []int{0, 7*p.Block + 1, (8+p.Block/2)*p.Block - 2} {
				w.write(o, i, at, text(min(4096, 3*p.Block), i))
			}
			w.write(o, i, most(p)-1, []byte("z"))
		}
		w.end(o)
		w.commit()
		first := []*sheet{nil, newSheet(api.KindFile), newSheet(api.KindDir)}
		for _, i := range []int{1, 2} {
			for _, at := range []int{0, 7*p.Block + 1, (8+p.Block/2)*p.Block - 2} {
				first[i].write(p, at, text(min(4096, 3*p.Block), i), 9999)
			}
			first[i].write(p, most(p)-1, []byte("z"), 9999)
		}
		for _, i := range []int{1, 2} {
			for _, size := range inFile(p, append(edges(p), 5*p.Block+3)) {
				for _, again := range []int{0, 1, 2 * p.Block, 9*p.Block + 9, most(p)} {
					o := w.begin()
					s := first[i].clone()
					before := w.used(o)
					back, _ := s.truncate(p, size)
					w.truncate(o, i, size)
					if now := w.used(o); len(now) != len(before)-back {
						t.Errorf("%d blocks were given back, should be %d", len(before)-len(now), back)
					}
					w.wantRead(o, i, max(0, size-100), 200, s.bytes[max(0, size-100):])
					s.truncate(p, again)
					w.truncate(o, i, again)
					// To read all of a file of the greatest size each time would take long.
					if again < most(p) || size%9 == 0 {
						w.wantSheet(o, i, s)
					}
					w.abort(o)
					if t.Failed() {
						t.Fatalf("%v: inode %d to %d, then to %d", p, i, size, again)
					}
				}
			}
		}
	}
}

// TestCleared: P14.3: what is cut off is not there any more, behind the end of the last block either, on the device, whatever grows over it.
func TestCleared(t *testing.T) {
	p := planned(t, 64, 200, 10, 90)
	for _, i := range []int{1, 2} {
		for _, size := range []int{1, 63, 65, 100, 575, 577} {
			w, o := pair(t, p)
			w.write(o, i, 0, text(600, 1))
			data, _ := w.blocks(o, i)
			w.end(o)
			w.settle()
			o = w.begin()
			w.truncate(o, i, size)
			w.end(o)
			w.settle()
			got, e := w.d.Read(data[size/64])
			want(t, "device.Read", e, api.OK)
			if wanted := append(text(600, 1)[size/64*64:size], make([]byte, 64-size%64)...); !bytes.Equal(got, wanted) {
				t.Errorf("the last block of %d bytes is %v, should be %v", size, got, wanted)
			}
		}
	}
}

// TestDirty: P14.4: the data blocks of a file, without holes and without blocks with pointers, rising, in whatever order they were taken; none twice, also of a file that names one twice; the answer is new memory.
func TestDirty(t *testing.T) {
	for _, p := range plans(t) {
		for _, i := range []int{1, 2} {
			w, o := pair(t, p)
			list, e := file.Dirty(o, w.u, i)
			if len(list) != 0 || e != api.OK {
				t.Error("Dirty:", list, e)
			}
			var named []int
			per := p.Block / 2
			for _, n := range []int{min(8+per, most(p)/p.Block-1) - 1, 9, 3, 0, most(p)/p.Block - 1, 7, 2} {
				w.write(o, i, n*p.Block+5, []byte("x"))
				b, e := w.u.Find(o, i, n)
				want(t, "Find", e, api.OK)
				named = append(named, b)
			}
			slices.Sort(named)
			for range 2 {
				list, e = file.Dirty(o, w.u, i)
				if !slices.Equal(list, named) || e != api.OK {
					t.Errorf("Dirty: %v, %d, should be %v", list, e, named)
				}
				list = list[:cap(list)]
				for k := range list {
					list[k] = -1
				}
			}
			s := w.seen(o)
			file.Dirty(o, w.u, i)
			w.wantSeen("Dirty", o, s)
			x := w.get(o, i)
			x.Direct[1], x.Direct[5] = x.Direct[0], x.Direct[7]
			w.put(o, i, x)
			list, e = file.Dirty(o, w.u, i)
			if !slices.Equal(list, named) || e != api.OK {
				t.Errorf("Dirty: %v, %d, should be %v", list, e, named)
			}
			// Size does not count.
			x.Size = 0
			w.put(o, i, x)
			if list, _ = file.Dirty(o, w.u, i); !slices.Equal(list, named) {
				t.Errorf("Dirty: %v, should be %v", list, named)
			}
		}
	}
}

// TestPastTheLog: blocks of files are written as data, past the log, those of directories through it; also by Truncate, and by writes that blank what stands behind the end.
func TestPastTheLog(t *testing.T) {
	p := planned(t, 64, 200, 10, 90)
	calls := map[string]func(w *world, o *group.Op, i int){
		"a new file":      func(w *world, o *group.Op, i int) { w.write(o, i, 700, text(300, 3)) },
		"over others":     func(w *world, o *group.Op, i int) { w.write(o, i, 64, text(128, 3)) },
		"within a block":  func(w *world, o *group.Op, i int) { w.write(o, i, 70, text(3, 3)) },
		"behind the end":  func(w *world, o *group.Op, i int) { w.write(o, i, 900, text(3, 3)) },
		"a shorter file":  func(w *world, o *group.Op, i int) { w.truncate(o, i, 70) },
		"a greater file":  func(w *world, o *group.Op, i int) { w.truncate(o, i, 700) },
		"a greatest file": func(w *world, o *group.Op, i int) { w.truncate(o, i, most(p)) },
	}
	for name, call := range calls {
		for _, i := range []int{1, 2} {
			w := formatted(t, p, 400)
			o := w.begin()
			w.born(o, 1, api.KindFile)
			w.born(o, 2, api.KindDir)
			w.write(o, i, 0, text(300, 1))
			w.end(o)
			w.settle()
			if dirty := w.c.Dirty(); len(dirty) != 0 {
				t.Error("dirty:", dirty)
			}
			o = w.begin()
			s := w.seen(o)
			call(w, o, i)
			r := w.seen(o)
			data, e := file.Dirty(o, w.u, i)
			want(t, "Dirty", e, api.OK)
			w.end(o)
			var changed []int
			for _, b := range s.differs(r) {
				if slices.Contains(data, b) {
					changed = append(changed, b)
				}
			}
			logged, dirty := w.g.Blocks(), w.c.Dirty()
			for _, b := range data {
				if i == 1 && slices.Contains(logged, b) || i == 2 && slices.Contains(dirty, b) {
					t.Errorf("%s: inode %d, block %d: logged %v, dirty %v", name, i, b, logged, dirty)
				}
			}
			for _, b := range changed {
				if i == 1 && !slices.Contains(dirty, b) || i == 2 && !slices.Contains(logged, b) {
					t.Errorf("%s: inode %d, block %d is not written: logged %v, dirty %v", name, i, b, logged, dirty)
				}
			}
			if len(changed) == 0 && name != "a greater file" && name != "a greatest file" {
				t.Errorf("%s: no block has changed", name)
			}
			// All else that has changed is metadata, and logged.
			for _, b := range s.differs(r) {
				if !slices.Contains(data, b) && b < p.Data && !slices.Contains(logged, b) {
					t.Errorf("%s: block %d is not logged", name, b)
				}
			}
		}
	}
}

// TestHandedIn: R4: the bytes that are handed in are neither changed nor kept, and what stands around them is not read.
func TestHandedIn(t *testing.T) {
	p := planned(t, 64, 200, 10, 90)
	for _, i := range []int{1, 2} {
		for _, n := range []int{1, 63, 64, 65, 300, 4096} {
			w, o := pair(t, p)
			all := bytes.Repeat([]byte{0xdd}, n+200)
			copy(all[100:], text(n, 1))
			kept := bytes.Clone(all)
			w.write(o, i, 30, all[100:100+n])
			if !bytes.Equal(all, kept) {
				t.Error("Write changed the bytes that it was handed")
			}
			clear(all)
			wanted := append(make([]byte, 30), text(n, 1)...)
			w.wantAll(o, i, wanted)
			w.end(o)
			o = w.begin()
			w.truncate(o, i, 30+n+70)
			w.wantAll(o, i, append(wanted, make([]byte, 70)...))
		}
	}
}

// TestOwnAnswer: R4: what Read has answered may be written, to the same file too.
func TestOwnAnswer(t *testing.T) {
	p := planned(t, 64, 200, 10, 90)
	w, o := pair(t, p)
	s := newSheet(api.KindFile)
	s.write(p, 0, text(200, 1), 99)
	w.write(o, 1, 0, text(200, 1))
	data, e := file.Read(o, w.u, p, 1, 10, 150)
	want(t, "Read", e, api.OK)
	for _, at := range []int{11, 40, 100, 777} {
		s.write(p, at, data, 99)
		w.write(o, 1, at, data)
	}
	w.wantSheet(o, 1, s)
}
