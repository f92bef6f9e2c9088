package journal

import (
	"coffer/api"
	"coffer/disk"
)

// port is a way to a disk. The first error that the disk returns shuts it: nothing goes through it any more.
type port struct {
	disk *disk.Disk
	err  api.Errno
}

// read returns zeros if the port is shut.
func (p *port) read(i int) sector {
	var s sector
	if p.err == api.OK {
		var b []byte
		b, p.err = p.disk.Read(i)
		copy(s[:], b)
	}
	return s
}

func (p *port) write(i int, s sector) {
	if p.err == api.OK {
		p.err = p.disk.Write(i, s[:])
	}
}

func (p *port) flush() {
	if p.err == api.OK {
		p.err = p.disk.Flush()
	}
}

// anchor makes m durable. Two anchors in a row go to different sectors, so that the older one outlives a torn write.
func (p *port) anchor(m mark) {
	p.write(int(m.number%anchors), m.anchor())
	p.flush()
}
