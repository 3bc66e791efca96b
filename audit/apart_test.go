package audit_test

import (
	"bytes"
	"slices"
	"testing"

	"skerry/api"
	"skerry/audit"
)

// scribble writes over all blocks of an image, and the room behind them.
func scribble(image [][]byte) {
	for _, data := range image[:cap(image)] {
		data = data[:cap(data)]
		for i := range data {
			data[i] ^= 0xff
		}
	}
}

// wantApart holds that no two blocks of an image share memory, the room behind them too.
func wantApart(t *testing.T, image [][]byte) {
	t.Helper()
	for b, data := range image {
		data = data[:cap(data)]
		for i := range data {
			data[i] = byte(b) ^ byte(b>>8)
		}
	}
	for b, data := range image {
		if !bytes.Equal(data, bytes.Repeat([]byte{byte(b) ^ byte(b>>8)}, len(data))) {
			t.Errorf("block %d shares memory with another one", b)
		}
	}
}

// roomy answers an image like another one, with room behind the list and behind each block; what stands there would tell if it were read. All of it is answered too.
func roomy(image [][]byte, mark byte) (short, all [][]byte) {
	for _, data := range image {
		long := append(bytes.Clone(data), bytes.Repeat([]byte{mark}, 100)...)
		all = append(all, long[:len(data)])
	}
	for range 40 {
		all = append(all, bytes.Repeat([]byte{mark}, len(image[0])))
	}
	return all[:len(image)], all
}

// long answers the blocks of an image with the room behind them.
func long(image [][]byte) [][]byte {
	list := make([][]byte, len(image))
	for b, data := range image {
		list[b] = bytes.Clone(data[:cap(data)])
	}
	return list
}

// answers is all that is answered of an image.
type answers struct {
	replayed [][]byte
	nodes    []api.Node
	used     complex128
	errors   [4]api.Errno
}

func ask(image [][]byte) (a answers) {
	a.replayed, a.errors[0] = audit.Replay(image)
	a.errors[1] = audit.Check(image)
	a.nodes, a.errors[2] = audit.Dump(image)
	a.used, a.errors[3] = audit.Used(image)
	return a
}

func (a answers) equal(b answers) bool {
	return same(a.replayed, b.replayed) && sameNodes(a.nodes, b.nodes) && a.used == b.used && a.errors == b.errors
}

func (a answers) clone() answers {
	a.replayed, a.nodes = clone(a.replayed), slices.Clone(a.nodes)
	for i := range a.nodes {
		a.nodes[i].Data = bytes.Clone(a.nodes[i].Data)
	}
	return a
}

// scribble writes over all lists of an answer, and the room behind them.
func (a answers) scribble() {
	scribble(a.replayed)
	for i := range a.nodes {
		data := a.nodes[i].Data[:cap(a.nodes[i].Data)]
		for k := range data {
			data[k] ^= 0xff
		}
	}
	clear(a.nodes[:cap(a.nodes)])
	clear(a.replayed[:cap(a.replayed)])
}

// samples answers images that are sound and that are not, with logs that are empty and that have something pending.
func samples(t *testing.T) [][][]byte {
	t.Helper()
	var list [][][]byte
	for _, p := range []api.Plan{planned(t, 64, 300, 20, 60), planned(t, 512, 150, 40, 40)} {
		sound := rich(t, p).image()
		s := rich(t, p)
		s.born(1, "new", 9, api.KindFile)
		s.write(9, 0, []byte("new bytes"))
		other := s.image()
		bad := clone(sound)
		turn(bad, p.IBits, 15)
		lost := clone(sound)
		lost[1][3] ^= 1
		list = append(list, sound, other, moved(t, p, sound, other), moved(t, p, other, sound), bad, moved(t, p, sound, bad), lost, sound[:len(sound)-1])
	}
	return list
}

// TestImagesApart: R4, an image that is handed in is neither changed nor kept, nor is the room behind it and behind its blocks read.
func TestImagesApart(t *testing.T) {
	for n, image := range samples(t) {
		first := ask(clone(image))
		for _, mark := range []byte{0, 1, 'a', rubble, 0xff} {
			short, all := roomy(image, mark)
			before := long(all)
			got := ask(short)
			if !got.equal(first) {
				t.Errorf("image %d: the room behind it has been read", n)
			}
			if !same(long(all), before) || !same(short, image) {
				t.Errorf("image %d: it has been written over", n)
			}
			scribble(short)
			if !got.equal(first) {
				t.Errorf("image %d: an answer shares its memory", n)
			}
		}
	}
}

// TestAnswersApart: R4 and R5, what is answered is new memory: writing over it, and the room behind it, changes neither the image nor another answer, nor what is answered later.
func TestAnswersApart(t *testing.T) {
	for n, image := range samples(t) {
		kept := clone(image)
		one, two := ask(image), ask(image)
		first := two.clone()
		one.scribble()
		if !two.equal(first) {
			t.Errorf("image %d: two answers share memory", n)
		}
		if !same(image, kept) {
			t.Errorf("image %d: an answer is its memory", n)
		}
		if !ask(image).equal(first) {
			t.Errorf("image %d: a later answer is another one", n)
		}
		wantApart(t, two.replayed)
	}
}

// TestNodesApart: R4, the bytes of a file that has several names are new for each, and the room behind them too.
func TestNodesApart(t *testing.T) {
	p := planned(t, 64, 300, 20, 60)
	s := newSheet(t, p)
	s.born(1, "a", 2, api.KindFile)
	s.link(1, "b", 2)
	s.link(1, "c", 2)
	s.write(2, 0, bytes.Repeat([]byte("xyz"), 50))
	list, e := audit.Dump(s.image())
	want(t, "Dump", e, api.OK)
	for k := 1; k < 4; k++ {
		data := list[k].Data[:cap(list[k].Data)]
		for i := range data {
			data[i] = byte(k)
		}
	}
	for k := 1; k < 4; k++ {
		if !bytes.Equal(list[k].Data, bytes.Repeat([]byte{byte(k)}, 150)) {
			t.Errorf("the bytes of %s are another's", list[k].Path)
		}
	}
}

// TestSharedBlocks: R1, an image whose blocks are the same memory is read as any other.
func TestSharedBlocks(t *testing.T) {
	for n, image := range samples(t) {
		first := ask(clone(image))
		shared := clone(image)
		for b := range shared {
			for c := range b {
				if bytes.Equal(shared[c], shared[b]) {
					shared[b] = shared[c]
					break
				}
			}
		}
		if !ask(shared).equal(first) || !same(shared, image) {
			t.Errorf("image %d: blocks that share memory are told otherwise", n)
		}
	}
}

// TestErrorsLeaveNothing: R5 and R6, what is answered of one image does not hang on others that were asked for ahead of it.
func TestErrorsLeaveNothing(t *testing.T) {
	list := samples(t)
	var first []answers
	for _, image := range list {
		first = append(first, ask(image))
	}
	for range 3 {
		for n := range list {
			k := (5*n + 3) % len(list)
			audit.Check(nil)
			audit.Dump(list[(k+1)%len(list)])
			if !ask(list[k]).equal(first[k]) {
				t.Errorf("image %d is told otherwise behind others", k)
			}
		}
	}
}
