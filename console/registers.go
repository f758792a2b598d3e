package console

import (
	"cameo/beam"
	"cameo/bus"
)

// The registers that are named, by their places in the map.
const (
	regControl   = 0x00
	regStatus    = 0x04
	regLine      = 0x06
	regOffsets   = 0x10
	regTurned    = 0x20
	regTurnedEnd = 0x40
	regSweep     = 0x60
	regWave      = 0x70
	regWaveLoud  = 0x72
	regNoise     = 0x7C
	regMixer     = 0x80
	regBuffers   = 0x82
	regMaster    = 0x84
	regBias      = 0x88
	regBank      = 0x90
	regFeedA     = 0xA0
	regFeedB     = 0xA4
	regDMA       = 0xB0
	regTimers    = 0x100
	regRequested = 0x202
	regWaits     = 0x204
	regMasterIrq = 0x208
	regPower     = 0x300
)

// The ends of ranges: the first place behind each.
const (
	endFeeds  = 0xA8
	endDMA    = 0xE0
	endTimers = 0x110
)

// dmaLen is how many bytes the registers of one channel take.
const dmaLen = 12

// readIO reads registers.
func (c *Console) readIO(at, width int) uint32 {
	x := uint32(c.readRegister(at &^ 1))
	switch width {
	case 1:
		return x >> (8 * (at & 1)) & 0xFF
	case 4:
		x |= uint32(c.readRegister(at+2)) << 16
	}
	return x
}

// readRegister reads the register at an even place.
func (c *Console) readRegister(at int) uint16 {
	switch at {
	case regStatus:
		return beam.Status(c.Now(), c.last[at/2])
	case regLine:
		line, _ := beam.At(c.Now())
		return uint16(line)
	case regControl, 0x02, 0x08, 0x0A, 0x0C, 0x0E, 0x48, 0x4A, 0x50, 0x52, regWaits:
		return c.last[at/2]
	}
	switch {
	case at >= regSweep && at <= regNoise:
		return c.last[at/2] & soundBits(at)
	case at >= regMixer && at < regDMA:
		return c.readSound(at)
	case at >= regDMA && at < endDMA:
		return c.readDMA(at - regDMA)
	case at >= regTimers && at < endTimers:
		return c.readTimer(at - regTimers)
	}
	return c.irq.Read(at)
}

// soundBits tells which bits of a channel's register are read.
func soundBits(at int) uint16 {
	switch at {
	case 0x60:
		return 0x7F
	case 0x62, 0x68, 0x78:
		return 0xFFC0
	case 0x64, 0x6C, 0x74:
		return 0x4000
	case 0x70:
		return 0xE0
	case 0x72:
		return 0xE000
	case 0x7C:
		return 0x40FF
	}
	return 0
}

// mixerNumber gives the number by which the sound knows a register; -1: none.
func mixerNumber(at int) int {
	switch at {
	case regMixer:
		return 0
	case regBuffers:
		return 1
	case regMaster:
		return 2
	case regBias:
		return 3
	}
	return -1
}

// readSound reads the mixer's registers, and the wave's memory.
func (c *Console) readSound(at int) uint16 {
	if i := mixerNumber(at); i >= 0 {
		return c.sound.Read(c.Now(), i)
	}
	if at < regBank || at >= regFeedA {
		return 0
	}
	p := c.sound.Psg()
	return uint16(p.Peek(at-regBank)) | uint16(p.Peek(at-regBank+1))<<8
}

// readDMA reads the registers of the channels: only their control words are.
func (c *Console) readDMA(at int) uint16 {
	if at%dmaLen != dmaLen-2 {
		return 0
	}
	return c.dma.Control(at / dmaLen)
}

func (c *Console) readTimer(at int) uint16 {
	if at%4 == 0 {
		return c.timers.Read(at/4, c.Now())
	}
	return c.timers.Control(at / 4)
}

// writeIO writes registers.
func (c *Console) writeIO(at, width int, x uint32) {
	switch width {
	case 1:
		c.writeByte(at, byte(x))
	case 2:
		c.writeRegister(at, uint16(x))
	default:
		c.writeRegister(at, uint16(x))
		c.writeRegister(at+2, uint16(x>>16))
	}
}

// writeByte writes a single byte of a register.
func (c *Console) writeByte(at int, b byte) {
	whole := replaced(c.last[at/2], at&1, b)
	switch {
	case at == regPower+1:
		c.last[at/2] = whole
		c.sleeps = true
	case at&^1 == regRequested:
		// As last written it would clear requests again.
		c.irq.Write(regRequested, replaced(0, at&1, b))
	case at >= regBank && at < regFeedA:
		c.sound.Run(c.Now())
		c.sound.Psg().Bank(c.Now(), at-regBank, b)
	case at >= regFeedA && at < endFeeds:
	default:
		c.writeRegister(at&^1, whole)
	}
}

// replaced gives a halfword with its lower or upper byte replaced.
func replaced(x uint16, upper int, b byte) uint16 {
	if upper == 1 {
		return x&0x00FF | uint16(b)<<8
	}
	return x&0xFF00 | uint16(b)
}

// writeRegister writes the register at an even place.
func (c *Console) writeRegister(at int, x uint16) {
	c.last[at/2] = x
	switch {
	case at < regSweep:
		c.writeScene(at, x)
	case at < regMixer:
		c.sound.Run(c.Now())
		c.writeChannel(at, x)
	case at < regDMA:
		c.sound.Run(c.Now())
		c.writeSound(at, x)
	case at < endDMA:
		at -= regDMA
		c.dma.Write(at/dmaLen, at%dmaLen/2, x)
	case at >= regTimers && at < endTimers:
		c.writeTimer(at-regTimers, x)
	case at == regWaits:
		c.waits = bus.Control(x)
		c.buffer.Drop()
	case at == regPower:
		c.sleeps = c.sleeps || x>>8 != 0
	default:
		c.irq.Write(at, x)
	}
}

// writeScene writes the registers of the picture.
func (c *Console) writeScene(at int, x uint16) {
	s, m := &c.scene, &c.mixing
	switch at {
	case regControl:
		s.Control = x
	case 0x08, 0x0A, 0x0C, 0x0E:
		s.Bg[(at-0x08)/2] = x
	case 0x40, 0x42:
		m.WinH[(at-0x40)/2] = x
	case 0x44, 0x46:
		m.WinV[(at-0x44)/2] = x
	case 0x48:
		m.In = x
	case 0x4A:
		m.Out = x
	case 0x4C:
		s.Mosaic = x
	case 0x50:
		m.Blend = x
	case 0x52:
		m.Alpha = x
	case 0x54:
		m.Bright = x
	}
	switch {
	case at >= regTurned && at < regTurnedEnd:
		c.writeTurned((at-regTurned)/16, at%16, x)
	case at >= regOffsets && at < regTurned && at%4 == 0:
		s.X[(at-regOffsets)/4] = x
	case at >= regOffsets && at < regTurned:
		s.Y[(at-regOffsets)/4] = x
	}
}

// writeTurned writes a register of one of the two turned backgrounds.
func (c *Console) writeTurned(k, at int, x uint16) {
	if at < 8 {
		c.scene.Par[k][at/2] = int16(x)
		return
	}
	first := (regTurned + 16*k + at&^3) / 2
	both := uint32(c.last[first]) | uint32(c.last[first+1])<<16
	place := int32(both<<4) >> 4
	way := (at - 8) / 4
	c.origin[k][way] = place
	c.scene.Ref[k][way] = place
}

// writeChannel writes a register of the sound's channels.
func (c *Console) writeChannel(at int, x uint16) {
	number := -1
	switch at {
	case regSweep:
		number = 0
	case 0x62:
		number = 1
	case 0x64:
		number = 2
	case 0x68:
		number = 3
	case 0x6C:
		number = 4
	case 0x74:
		number = 9
	case 0x78:
		number = 7
	case regNoise:
		number = 8
	case regWave, regWaveLoud:
		c.writeWave()
		if at == regWave {
			return
		}
		number = 6
	}
	if number >= 0 {
		c.sound.Psg().Write(c.Now(), number, x)
	}
}

// writeWave writes the wave's register, whose upper byte lies in the next one.
func (c *Console) writeWave() {
	both := c.last[regWave/2]&0xFF | c.last[regWaveLoud/2]<<8
	c.sound.Psg().Write(c.Now(), 5, both)
}

// writeSound writes the mixer's registers, the wave's memory, and the buffers.
func (c *Console) writeSound(at int, x uint16) {
	now := c.Now()
	if i := mixerNumber(at); i >= 0 {
		c.sound.Write(now, i, x)
		return
	}
	switch {
	case at == regFeedA+2, at == regFeedB+2:
		c.sound.Feed((at-regFeedA)/4, uint32(c.last[at/2-1])|uint32(x)<<16)
	case at >= regBank && at < regFeedA:
		p := c.sound.Psg()
		p.Bank(now, at-regBank, byte(x))
		p.Bank(now, at-regBank+1, byte(x>>8))
	}
}

// writeTimer writes a timer's reload value or its control word.
func (c *Console) writeTimer(at int, x uint16) {
	if at%4 == 0 {
		c.timers.SetReload(at/4, x)
		return
	}
	c.timers.SetControl(at/4, c.Now(), x)
	c.setAlarm()
}
