package console

import (
	"cameo/api"
)

// A mark is an access in few bytes: a Run may make sixteen million of them.
type mark struct {
	head uint64 // the cycle, and below it owner, class, direction and width
	addr uint32
	data uint32
}

const (
	widthBits  = 2
	writeAt    = widthBits
	classAt    = writeAt + 1
	classBits  = 2
	ownerAt    = classAt + classBits
	ownerBits  = 3
	cycleAt    = ownerAt + ownerBits
	idleWidth  = 3 // the width is a number of cycles, in place of address and data
	lowestBits = 1<<32 - 1
)

// widthCode gives a width in two bits.
func widthCode(width int) uint64 {
	switch width {
	case 2:
		return 1
	case 4:
		return 2
	}
	return 0
}

// note adds an access that begins now.
func (c *Console) note(addr uint32, width int, write bool, x uint32, class int) {
	head := c.head(class) | widthCode(width)
	if write {
		head |= 1 << writeAt
	}
	c.trace = append(c.trace, mark{head: head, addr: addr, data: x})
}

// noteIdle adds an Idle that begins now.
func (c *Console) noteIdle(n int) {
	cycles := uint64(n)
	c.trace = append(c.trace, mark{
		head: c.head(api.ClassI) | idleWidth,
		addr: uint32(cycles >> 32),
		data: uint32(cycles & lowestBits),
	})
}

// head gives what all accesses have.
func (c *Console) head(class int) uint64 {
	return uint64(c.clock.Now())<<cycleAt | uint64(c.owner)<<ownerAt | uint64(class&3)<<classAt
}

// access is the reverse of note and noteIdle.
func (m mark) access() api.Access {
	a := api.Access{
		At:    int(m.head >> cycleAt),
		Owner: int(m.head >> ownerAt & (1<<ownerBits - 1)),
		Class: int(m.head >> classAt & (1<<classBits - 1)),
	}
	width := m.head & (1<<widthBits - 1)
	if width == idleWidth {
		a.Width = int(uint64(m.addr)<<32 | uint64(m.data))
		return a
	}
	a.Addr, a.Data = m.addr, m.data
	a.Width = 1 << width
	a.Write = m.head>>writeAt&1 != 0
	return a
}

// Trace: the bus accesses so far; they are gone then.
func (c *Console) Trace() []api.Access {
	if c.missing() {
		return nil
	}
	all := make([]api.Access, len(c.trace))
	for i, m := range c.trace {
		all[i] = m.access()
	}
	c.trace = nil
	return all
}
