package console

import (
	"cameo/api"
	"cameo/bus"
)

const (
	workLen = 0x40000
	fastLen = 0x8000
	ioLen   = 0x400
	palLen  = 0x400
	vramLen = 0x18000
	oamLen  = 0x400

	serialTop = 0x0D // the highest eight bits of an EEPROM's addresses

	// Below these places of the tiles a single byte is written, twice.
	bytesEnd       = 0x10000
	bitmapBytesEnd = 0x14000
	bitmapMode     = 3
)

// sane gives a width that there is.
func sane(width int) int {
	if width == 2 || width == 4 {
		return width
	}
	return 1
}

// narrow gives the lowest bits of a number, as many as a width has.
func narrow(x uint32, width int) uint32 {
	switch width {
	case 1:
		return x & 0xFF
	case 2:
		return x & 0xFFFF
	}
	return x
}

// half reads a halfword of a memory.
func half(memory []byte, at int) uint16 { return uint16(memory[at]) | uint16(memory[at+1])<<8 }

func setHalf(memory []byte, at int, x uint16) {
	memory[at], memory[at+1] = byte(x), byte(x>>8)
}

// little reads a number of a memory, the lowest byte first.
func little(memory []byte, at, width int) uint32 {
	switch width {
	case 1:
		return uint32(memory[at])
	case 2:
		return uint32(half(memory, at))
	}
	return uint32(half(memory, at)) | uint32(half(memory, at+2))<<16
}

func setLittle(memory []byte, at, width int, x uint32) {
	for i := range width {
		memory[at+i] = byte(x >> (8 * i))
	}
}

// Fetch: code.
func (c *Console) Fetch(addr uint32, width, class int) uint32 {
	if c.missing() {
		return 0
	}
	width = sane(width)
	x := c.peek(addr, width)
	c.open = x
	if width == 2 {
		c.open |= x << 16
	}
	c.note(addr, width, false, x, class)
	if region, _ := bus.Map(addr); region == api.RegRom && c.waits.Ahead {
		first, s := c.waits.Cost(addr, 2, api.ClassN), c.waits.Cost(addr|2, 2, api.ClassS)
		c.pass(c.buffer.Fetch(addr, width/2, first, s))
		return x
	}
	c.passAndRest(c.waits.Cost(addr, width, class))
	return x
}

// Load: data, by the processor.
func (c *Console) Load(addr uint32, width, class int) uint32 {
	if c.missing() {
		return 0
	}
	width = sane(width)
	x := c.Read(addr, width)
	c.note(addr, width, false, x, class)
	c.spend(addr, width, class)
	return x
}

// Store: data, by the processor.
func (c *Console) Store(addr uint32, width, class int, x uint32) {
	if c.missing() {
		return
	}
	width = sane(width)
	x = narrow(x, width)
	c.note(addr, width, true, x, class)
	c.Write(addr, width, x)
	c.spend(addr, width, class)
}

// Idle: the processor is busy with itself.
func (c *Console) Idle(n int) {
	if c.missing() {
		return
	}
	c.noteIdle(n)
	c.passAndRest(n)
}

// spend lets the cycles of an access to data pass; at the cartridge it takes the buffer's place.
func (c *Console) spend(addr uint32, width, class int) {
	cost := c.waits.Cost(addr, width, class)
	if region, _ := bus.Map(addr); region == api.RegRom {
		c.pass(cost)
		c.buffer.Drop()
		return
	}
	c.passAndRest(cost)
}

// passAndRest lets cycles pass in which the cartridge is free.
func (c *Console) passAndRest(n int) {
	c.pass(n)
	if !c.waits.Ahead {
		return
	}
	next, _ := c.buffer.Kept()
	c.buffer.Rest(n, c.waits.Cost(next|2, 2, api.ClassS))
}

// stored gives the memory of a region, if it is one that just stores.
func (c *Console) stored(region int) []byte {
	switch region {
	case api.RegWork:
		return c.work
	case api.RegFast:
		return c.fast
	case api.RegPal:
		return c.scene.Pal
	case api.RegVram:
		return c.scene.Vram
	case api.RegOam:
		return c.scene.Oam
	}
	return nil
}

// aligned clears the lowest bits of an address according to a width.
func aligned(addr uint32, width int) uint32 { return addr &^ uint32(width-1) }

// peek reads without any effect.
func (c *Console) peek(addr uint32, width int) uint32 {
	addr = aligned(addr, width)
	region, at := bus.Map(addr)
	switch region {
	case api.RegRom:
		return c.romAt(at, width)
	case api.RegBios:
		return narrow(builtIn(at/4)>>(8*(at%4)), width)
	}
	if memory := c.stored(region); memory != nil {
		return little(memory, at, width)
	}
	return narrow(c.open>>(8*(addr&3)), width)
}

// builtIn gives a word of the built-in code.
func builtIn(i int) uint32 {
	code := [14]uint32{
		0xE1B0F00E, 0xE1B0F00E, 0xE1B0F00E, 0xE1B0F00E, 0xE1B0F00E, 0xE1B0F00E, 0xEA000000,
		0xE1B0F00E, 0xE92D500F, 0xE3A00301, 0xE28FE000, 0xE510F004, 0xE8BD500F, 0xE25EF004,
	}
	if i >= len(code) {
		return 0
	}
	return code[i]
}

// romAt reads the cartridge.
func (c *Console) romAt(at, width int) uint32 {
	if width == 4 && at+4 <= len(c.rom) {
		s := c.rom[at : at+4]
		return uint32(s[0]) | uint32(s[1])<<8 | uint32(s[2])<<16 | uint32(s[3])<<24
	}
	x := uint32(0)
	for i := range width {
		x |= uint32(c.romByte(at+i)) << (8 * i)
	}
	return x
}

// romByte reads a byte of the cartridge; behind its end the halfwords' own numbers are read.
func (c *Console) romByte(at int) byte {
	switch {
	case at < len(c.rom):
		return c.rom[at]
	case at == len(c.rom) && at%2 == 1:
		return 0
	case at%2 == 0:
		return byte(at / 2)
	}
	return byte(at / 2 >> 8)
}

// serial tells whether an address is the EEPROM's.
func (c *Console) serial(addr uint32) bool { return addr>>24 == serialTop && c.chip.Serial() }

// Read: see bios.Memory: without a trace, and without cycles.
func (c *Console) Read(addr uint32, width int) uint32 {
	if c.missing() {
		return 0
	}
	width = sane(width)
	region, at := bus.Map(aligned(addr, width))
	switch {
	case region == api.RegSave:
		return narrow(uint32(c.chip.Read(addr))*0x01010101, width)
	case region == api.RegIO:
		return c.readIO(at, width)
	case c.serial(addr):
		return c.readBits(width)
	}
	return c.peek(addr, width)
}

// readBits takes a bit of the EEPROM's output for each halfword.
func (c *Console) readBits(width int) uint32 {
	x := uint32(c.chip.Bit())
	if width == 4 {
		x |= uint32(c.chip.Bit()) << 16
	}
	return x
}

// Write: see bios.Memory.
func (c *Console) Write(addr uint32, width int, x uint32) {
	if c.missing() {
		return
	}
	width = sane(width)
	region, at := bus.Map(aligned(addr, width))
	switch region {
	case api.RegSave:
		c.chip.Write(addr, byte(x>>(8*(addr&uint32(width-1)))))
	case api.RegIO:
		c.writeIO(at, width, x)
	case api.RegRom:
		c.writeBits(addr, width, x)
	case api.RegWork, api.RegFast:
		setLittle(c.stored(region), at, width, x)
	case api.RegPal, api.RegVram, api.RegOam:
		c.writePicture(region, at, width, x)
	}
}

// writeBits passes a bit of each halfword to the EEPROM.
func (c *Console) writeBits(addr uint32, width int, x uint32) {
	if !c.serial(addr) {
		return
	}
	c.chip.Take(byte(x & 1))
	if width == 4 {
		c.chip.Take(byte(x >> 16 & 1))
	}
}

// writePicture writes to the picture's memories, which have no single bytes.
func (c *Console) writePicture(region, at, width int, x uint32) {
	if width > 1 {
		setLittle(c.stored(region), at, width, x)
		return
	}
	end := palLen
	switch {
	case region == api.RegOam:
		return
	case region == api.RegVram && c.scene.Mode() >= bitmapMode:
		end = bitmapBytesEnd
	case region == api.RegVram:
		end = bytesEnd
	}
	if at < end {
		setHalf(c.stored(region), at&^1, uint16(x&0xFF*0x0101))
	}
}
