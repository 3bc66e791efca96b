package audit_test

import (
	"bytes"
	"slices"
	"strings"
	"testing"

	"skerry/api"
	"skerry/audit"
	"skerry/codec"
)

// The sentences of what is sound, by which an image may fail.
const (
	isRead      = "each inode is read"
	zeroFree    = "inode 0 is free"
	tableEnd    = "the bytes behind the last inode are 0"
	inodeBits   = "the inodes' bitmap"
	greatSize   = "Size is at most MaxSize"
	dataBlocks  = "each pointer is 0 or a data block"
	namedOnce   = "no block is named twice"
	behindSize  = "a pointer behind Size is 0"
	waysBehind  = "a pointer to pointers behind Size is 0"
	blockBits   = "the blocks' bitmap"
	rootIsDir   = "inode 1 is a directory"
	sixteen     = "Size of a directory is a multiple of 16"
	noHole      = "a directory has no hole"
	nameIsRead  = "each name is read"
	noZero      = "no name has Inode 0"
	nameOnce    = "no name stands twice"
	namesUsed   = "each name names an inode in use"
	rootUnnamed = "inode 1 is named by none"
	rootLinks   = "inode 1 has Links 1"
	dirOnce     = "a directory is named just once"
	dirLinks    = "a directory has Links 1"
	dirReached  = "a directory is reached"
	fileLinks   = "a file is named as often as Links says"
	fileNamed   = "a file is named at least once"
)

// applied answers the plan of an image, and the replayed image, if it can be replayed; by the words of the chapters, and by hand.
func applied(image [][]byte) (api.Plan, [][]byte, bool) {
	none := func() (api.Plan, [][]byte, bool) { return api.Plan{}, nil, false }
	if len(image) == 0 {
		return none()
	}
	p, e := codec.Unsuper(image[0])
	if e != api.OK || len(image) != p.Blocks {
		return none()
	}
	for _, data := range image {
		if len(data) != p.Block {
			return none()
		}
	}
	h, e := codec.Unheader(image[1])
	if e != api.OK || h.Tail >= p.Log || h.Used > p.Log {
		return none()
	}
	var ring [][]byte
	for k := range h.Used {
		ring = append(ring, image[p.LogAt+(h.Tail+k)%p.Log])
	}
	out := clone(image)
	var seqs []int
	for len(ring) > 0 {
		seq, list, e := codec.Undesc(ring[0])
		if e != api.OK || len(list) == 0 || len(list) > len(ring)-1 {
			return none()
		}
		for k, b := range list {
			if b < p.IBits || b >= p.Blocks || slices.Contains(list[:k], b) {
				return none()
			}
			out[b] = bytes.Clone(ring[1+k])
		}
		seqs, ring = append(seqs, seq), ring[1+len(list):]
	}
	for k, seq := range seqs {
		if seq != h.Seq-len(seqs)+k {
			return none()
		}
	}
	return p, out, true
}

// ref is a pointer of an inode: what it names, and on the ways of how many numbers it lies, from first on.
type ref struct {
	inode, to, first, span int
}

// model knows a replayed image by the chapter's words, sentence by sentence, without care for time.
type model struct {
	p      api.Plan
	image  [][]byte
	inodes []api.Inode
	refs   []ref // all pointers that are not 0
	broken map[string]bool
}

// newModel answers a model of an image that can be replayed.
func newModel(image [][]byte) (*model, bool) {
	p, out, can := applied(image)
	if !can {
		return nil, false
	}
	m := &model{p: p, image: out, broken: map[string]bool{}}
	m.lookAtInodes()
	for i, x := range m.inodes {
		m.addRefs(i, x)
	}
	m.lookAtBlocks()
	m.lookAtDirs()
	m.lookAtTree()
	return m, true
}

// breaks takes note of a sentence that is not true.
func (m *model) breaks(sentence string, broken bool) {
	if broken {
		m.broken[sentence] = true
	}
}

// faults answers the sentences that are not true.
func (m *model) faults() []string {
	var list []string
	for s := range m.broken {
		list = append(list, s)
	}
	slices.Sort(list)
	return list
}

func (m *model) bit(from, n int) bool {
	each := 8 * m.p.Block
	return m.image[from+n/each][n%each/8]>>(n%8)&1 == 1
}

func (m *model) lookAtInodes() {
	p := m.p
	for i := range p.Inodes {
		x, e := codec.Uninode(rawInode(p, m.image, i))
		m.breaks(isRead, e != api.OK)
		m.inodes = append(m.inodes, x)
	}
	m.breaks(zeroFree, m.inodes[0].Kind != api.KindFree)
	for i := p.Inodes; i < p.TLen*p.Block/32; i++ {
		m.breaks(tableEnd, !bytes.Equal(rawInode(p, m.image, i), make([]byte, 32)))
	}
	for i := range 8 * p.Block * p.ILen {
		m.breaks(inodeBits, m.bit(p.IBits, i) != (i < 2 || m.used(i)))
	}
}

// used answers whether inode i is in use.
func (m *model) used(i int) bool {
	return i >= 0 && i < m.p.Inodes && m.inodes[i].Kind != api.KindFree
}

func (m *model) isData(b int) bool {
	return b >= m.p.Data && b < m.p.Blocks
}

// pointers answers what a block has as pointers; if it is none of the data blocks, nothing.
func (m *model) pointers(b int) []int {
	if !m.isData(b) {
		return nil
	}
	var list []int
	for k := range per(m.p) {
		list = append(list, int(m.image[b][2*k])|int(m.image[b][2*k+1])<<8)
	}
	return list
}

func (m *model) addRefs(i int, x api.Inode) {
	n := per(m.p)
	add := func(to, first, span int) {
		if to != 0 {
			m.refs = append(m.refs, ref{i, to, first, span})
		}
	}
	for k, b := range x.Direct {
		add(b, k, 1)
	}
	add(x.Single, 8, n)
	for k, b := range m.pointers(x.Single) {
		add(b, 8+k, 1)
	}
	add(x.Double, 8+n, n*n)
	for k, b := range m.pointers(x.Double) {
		add(b, 8+n+k*n, n)
		for j, c := range m.pointers(b) {
			add(c, 8+n+k*n+j, 1)
		}
	}
}

// blocks answers the data blocks that are named, each as often as it is.
func (m *model) blocks() map[int]int {
	count := map[int]int{}
	for _, r := range m.refs {
		if m.isData(r.to) {
			count[r.to]++
		}
	}
	return count
}

func (m *model) lookAtBlocks() {
	p := m.p
	for _, x := range m.inodes {
		m.breaks(greatSize, x.Size > most(p))
	}
	for _, r := range m.refs {
		m.breaks(dataBlocks, !m.isData(r.to))
		if r.first*p.Block >= m.inodes[r.inode].Size {
			m.breaks(behindSize, r.span == 1)
			m.breaks(waysBehind, r.span > 1)
		}
	}
	count := m.blocks()
	for _, n := range count {
		m.breaks(namedOnce, n > 1)
	}
	for b := range 8 * p.Block * p.BLen {
		m.breaks(blockBits, m.bit(p.BBits, b) != (b < p.Data || count[b] > 0))
	}
}

// content answers the bytes of an inode, and how many blocks ahead of Size are holes.
func (m *model) content(i int) (data []byte, holes int) {
	data = make([]byte, min(m.inodes[i].Size, most(m.p)))
	met := map[int]bool{}
	for _, r := range m.refs {
		if r.inode == i && r.span == 1 && m.isData(r.to) && r.first*m.p.Block < len(data) {
			copy(data[r.first*m.p.Block:], m.image[r.to])
			met[r.first] = true
		}
	}
	return data, (len(data)+m.p.Block-1)/m.p.Block - len(met)
}

// entries answers the names of a directory that are read, as they stand.
func (m *model) entries(d int) []api.Dirent {
	var list []api.Dirent
	data, _ := m.content(d)
	for ; len(data) >= 16; data = data[16:] {
		if x, e := codec.Undirent(data[:16]); e == api.OK && x.Inode != 0 {
			list = append(list, x)
		}
	}
	return list
}

func (m *model) lookAtDirs() {
	m.breaks(rootIsDir, m.inodes[1].Kind != api.KindDir)
	for i, x := range m.inodes {
		if x.Kind != api.KindDir {
			continue
		}
		m.breaks(sixteen, x.Size%16 != 0)
		data, holes := m.content(i)
		m.breaks(noHole, holes > 0)
		for ; len(data) >= 16; data = data[16:] {
			y, e := codec.Undirent(data[:16])
			m.breaks(nameIsRead, e != api.OK)
			m.breaks(noZero, e == api.OK && y.Inode == 0)
		}
		met := map[string]bool{}
		for _, y := range m.entries(i) {
			m.breaks(nameOnce, met[y.Name])
			m.breaks(namesUsed, !m.used(y.Inode))
			met[y.Name] = true
		}
	}
}

func (m *model) lookAtTree() {
	count := map[int]int{}
	for i, x := range m.inodes {
		if x.Kind != api.KindDir {
			continue
		}
		for _, y := range m.entries(i) {
			count[y.Inode]++
		}
	}
	reached := map[int]bool{}
	m.reach(1, reached)
	for i, x := range m.inodes {
		switch {
		case i == 1:
			m.breaks(rootUnnamed, count[i] != 0)
			m.breaks(rootLinks, x.Links != 1)
		case x.Kind == api.KindDir:
			m.breaks(dirOnce, count[i] != 1)
			m.breaks(dirLinks, x.Links != 1)
			m.breaks(dirReached, !reached[i])
		}
		if x.Kind == api.KindFile {
			m.breaks(fileLinks, count[i] != x.Links)
			m.breaks(fileNamed, count[i] == 0)
		}
	}
}

// reach goes to all directories that names lead to.
func (m *model) reach(d int, reached map[int]bool) {
	if reached[d] || !m.used(d) || m.inodes[d].Kind != api.KindDir {
		return
	}
	reached[d] = true
	for _, x := range m.entries(d) {
		m.reach(x.Inode, reached)
	}
}

// nodes answers the tree of a sound image: paths are found one by one, and put in order by their names.
func (m *model) nodes() []api.Node {
	type place struct {
		names []string
		inode int
	}
	list := []place{{nil, 1}}
	for k := 0; k < len(list); k++ {
		if m.inodes[list[k].inode].Kind == api.KindDir {
			for _, x := range m.entries(list[k].inode) {
				list = append(list, place{append(slices.Clip(list[k].names), x.Name), x.Inode})
			}
		}
	}
	slices.SortFunc(list, func(a, b place) int { return slices.Compare(a.names, b.names) })
	var nodes []api.Node
	for _, l := range list {
		x := m.inodes[l.inode]
		n := api.Node{Path: "/" + strings.Join(l.names, "/"), Kind: x.Kind, Inode: l.inode, Links: x.Links, Size: x.Size}
		if x.Kind == api.KindFile {
			n.Data, _ = m.content(l.inode)
		}
		nodes = append(nodes, n)
	}
	return nodes
}

// amount answers how many data blocks are named, and inodes in use.
func (m *model) amount() complex128 {
	inodes := 0
	for i := range m.inodes {
		if m.used(i) {
			inodes++
		}
	}
	return complex(float64(len(m.blocks())), float64(inodes))
}

// agree holds all that is answered of an image against what the model says, and answers how it is: lost, unsound or sound.
func agree(t *testing.T, image [][]byte) string {
	t.Helper()
	m, can := newModel(image)
	if !can {
		wantLost(t, image)
		return "lost"
	}
	wantReplay(t, image, m.image)
	if len(m.broken) > 0 {
		wantUnsound(t, image)
		return "unsound"
	}
	wantSound(t, image, m.nodes(), m.amount())
	return "sound"
}

// wantFaults holds the model itself against what an image was made for: just these sentences are not true of it.
func wantFaults(t *testing.T, image [][]byte, sentences ...string) {
	t.Helper()
	m, can := newModel(image)
	if !can {
		t.Error("the image cannot be replayed")
		return
	}
	slices.Sort(sentences)
	if got := m.faults(); !slices.Equal(got, sentences) {
		t.Errorf("the image breaks %q, should break %q", got, sentences)
	}
	if audit.Check(image) == api.OK != (len(sentences) == 0) {
		t.Errorf("Check: %d, of an image that breaks %q", audit.Check(image), sentences)
	}
}
