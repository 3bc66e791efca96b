package fsys

import (
	"skerry/alloc"
	"skerry/api"
	"skerry/cache"
	"skerry/codec"
	"skerry/device"
	"skerry/plan"
	"skerry/wal"
)

// Mkfs lets a file system that has the root alone stand on d. While it is under way, the first block tells of none: if it is cut off, what is half there is not taken for one.
func Mkfs(d *device.Device, p api.Plan) api.Errno {
	if d == nil {
		return api.ErrArg
	}
	if plan.Check(p) != api.OK || d.Block() != p.Block || d.Blocks() != p.Blocks {
		return api.ErrForm
	}
	first, e := codec.Super(p)
	if e != api.OK {
		return e
	}
	if e = lay(d, make([]byte, p.Block)); e != api.OK {
		return e
	}
	if e = wal.Format(d, p); e != api.OK {
		return e
	}
	if e = format(d, p); e != api.OK {
		return e
	}
	return lay(d, first)
}

// lay lets the first block arrive, and all that waits.
func lay(d *device.Device, first []byte) api.Errno {
	if e := d.Write(0, first); e != api.OK {
		return e
	}
	return d.Flush()
}

// format lets the bitmaps and the table of a file system that has the root alone arrive.
func format(d *device.Device, p api.Plan) api.Errno {
	c, e := cache.New(d, 1, nil)
	if e != api.OK {
		return e
	}
	s, e := assemble(d, c, p)
	if e != api.OK {
		return e
	}
	o, e := s.group.Begin()
	if e != api.OK {
		return e
	}
	// The operation is but a draft, that is never ended: the log may be too small for all of these blocks.
	if e = (&call{s, o}).draft(); e != api.OK {
		return e
	}
	for b := p.IBits; b < p.Data; b++ {
		data, e := o.Read(b)
		if e != api.OK {
			return e
		}
		if e = d.Write(b, data); e != api.OK {
			return e
		}
	}
	return d.Flush()
}

// draft notes the bitmaps and the table of a file system that has the root alone.
func (c *call) draft() api.Errno {
	if e := alloc.Format(c.op, c.plan); e != api.OK {
		return e
	}
	for b := c.plan.Table; b < c.plan.Data; b++ {
		if e := c.op.Write(b, make([]byte, c.plan.Block)); e != api.OK {
			return e
		}
	}
	return c.table.Put(c.op, rootInode, api.Inode{Kind: api.KindDir, Links: 1})
}
