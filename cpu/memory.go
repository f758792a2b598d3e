package cpu

import (
	"math/bits"

	"cameo/api"
	"cameo/shift"
)

// The ways of loading and storing; those of OpHalf are its codes.
const (
	asWord = iota
	asHalf
	asSignedByte
	asSignedHalf
	asByte
	ways
)

// loads are how values are read at an address.
type loads [ways]func(addr uint32) uint32

// stores are how values are written; the signed ones are as the others.
type stores [ways]func(addr, x uint32)

func (c *CPU) allLoads() loads {
	read := func(addr uint32, width int) uint32 {
		c.touched = true
		return c.bus.Load(addr, width, api.ClassN)
	}
	signedByte := func(addr uint32) uint32 { return uint32(int8(read(addr, 1))) }
	return loads{
		asWord: func(addr uint32) uint32 {
			return bits.RotateLeft32(read(addr&^3, 4), -8*int(addr&3))
		},
		asHalf: func(addr uint32) uint32 {
			return bits.RotateLeft32(uint32(uint16(read(addr&^1, 2))), -8*int(addr&1))
		},
		asSignedByte: signedByte,
		asSignedHalf: func(addr uint32) uint32 {
			if addr&1 != 0 {
				return signedByte(addr)
			}
			return uint32(int16(read(addr, 2)))
		},
		asByte: func(addr uint32) uint32 { return uint32(byte(read(addr, 1))) },
	}
}

func (c *CPU) allStores() stores {
	write := func(addr uint32, width int, x uint32) {
		c.touched = true
		c.bus.Store(addr, width, api.ClassN, x)
	}
	half := func(addr, x uint32) { write(addr&^1, 2, x&0xFFFF) }
	single := func(addr, x uint32) { write(addr, 1, x&0xFF) }
	return stores{
		asWord:       func(addr, x uint32) { write(addr&^3, 4, x) },
		asHalf:       half,
		asSignedByte: single,
		asSignedHalf: half,
		asByte:       single,
	}
}

// wordOrByte gives the way of an instruction that has these two.
func (c *CPU) wordOrByte() int {
	if c.instr.Byte {
		return asByte
	}
	return asWord
}

// swap: a load and a store at one place.
func (c *CPU) swap() {
	x := &c.instr
	way, addr := c.wordOrByte(), c.Get(x.Rn)
	value := c.loads[way](addr)
	c.stores[way](addr, c.stored(x.Rm))
	c.bus.Idle(1)
	c.put(x.Rd, value)
}

// word: a load or a store of a word or a byte.
func (c *CPU) word() {
	x := &c.instr
	offset := x.Imm
	if !x.HasImm {
		offset, _ = shift.Imm(x.Shift, c.Get(x.Rm), x.Amount, c.flags().C)
	}
	c.move(c.wordOrByte(), offset)
}

// half: a load or a store of a halfword, or of something with a sign.
func (c *CPU) half() {
	x := &c.instr
	offset := x.Imm
	if !x.HasImm {
		offset = c.Get(x.Rm)
	}
	c.move(x.Code, offset)
}

// move loads or stores a register.
func (c *CPU) move(way int, offset uint32) {
	x := &c.instr
	base := c.Get(x.Rn)
	if x.Align {
		base &^= 3
	}
	end := base - offset
	if x.Up {
		end = base + offset
	}
	addr := base
	if x.Pre {
		addr = end
	}
	if !x.Load {
		c.stores[way](addr, c.stored(x.Rd))
		c.back(end)
		return
	}
	value := c.loads[way](addr)
	c.bus.Idle(1)
	c.back(end)
	if x.Rd == counter {
		value &^= 1
	}
	c.put(x.Rd, value)
}

// back writes the end back to the base, if that is asked for.
func (c *CPU) back(end uint32) {
	if c.instr.Back {
		c.put(c.instr.Rn, end)
	}
}

// block: loads or stores of many registers.
func (c *CPU) block() {
	x := &c.instr
	list := x.List
	count := bits.OnesCount(uint(list))
	if list == 0 {
		list, count = 1<<counter, 16
	}
	size := uint32(4 * count)
	base := c.Get(x.Rn)
	addr, end := base-size, base-size
	if x.Up {
		addr, end = base, base+size
	}
	if x.Pre == x.Up {
		addr += 4
	}
	c.touched = true
	if x.Load {
		c.loadBlock(list, addr, end)
	} else {
		c.storeBlock(list, addr, end)
	}
}

func (c *CPU) storeBlock(list int, addr, end uint32) {
	class := api.ClassN
	for i := range 16 {
		if list>>i&1 == 0 {
			continue
		}
		value := c.stored(i)
		if c.instr.User && i != counter {
			value = c.User(i)
		}
		c.bus.Store(addr&^3, 4, class, value)
		addr += 4
		if class == api.ClassN {
			c.back(end)
			class = api.ClassS
		}
	}
}

func (c *CPU) loadBlock(list int, addr, end uint32) {
	c.back(end)
	withCounter := list>>counter&1 != 0
	class := api.ClassN
	for i := range 16 {
		if list>>i&1 == 0 {
			continue
		}
		value := c.bus.Load(addr&^3, 4, class)
		class = api.ClassS
		addr += 4
		switch {
		case i == counter:
			if c.instr.User {
				c.SetStatus(c.Saved())
			}
			c.put(i, value&^1)
		case c.instr.User && !withCounter:
			c.SetUser(i, value)
		default:
			c.put(i, value)
		}
	}
	c.bus.Idle(1)
}
