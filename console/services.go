package console

import (
	"cameo/bios"
)

// The cycles that each service takes, and those of its units.
const (
	anyService = 10
	divCost    = 40
	sqrtCost   = 50
	tanCost    = 30
	tan2Cost   = 60
	copyCost   = 4
	bgCost     = 20
	objCost    = 15
	byteCost   = 6
)

// Soft: a service.
func (c *Console) Soft(n int) {
	if c.missing() {
		return
	}
	c.Idle(anyService + c.serve(n))
}

// serve does what a service does, and tells its cycles.
func (c *Console) serve(n int) int {
	r := func(i int) uint32 { return c.cpu.Get(i) }
	switch n {
	case 0x02:
		c.sleeps = true
	case 0x04:
		c.await(uint16(r(1)), r(0)&1 != 0)
	case 0x05:
		c.await(1, true)
	case 0x06:
		return c.divide(r(0), r(1))
	case 0x07:
		return c.divide(r(1), r(0))
	case 0x08:
		c.cpu.Set(0, bios.Sqrt(r(0)))
		return sqrtCost
	case 0x09:
		c.cpu.Set(0, uint32(bios.ArcTan(int32(int16(r(0))))))
		return tanCost
	case 0x0A:
		c.cpu.Set(0, uint32(bios.ArcTan2(int32(int16(r(0))), int32(int16(r(1))))))
		return tan2Cost
	case 0x0B, 0x0C:
		return copyCost * bios.Copy(c, r(0), r(1), r(2), n == 0x0C)
	case 0x0E:
		return bgCost * bios.BgTurn(c, r(0), r(1), int(r(2)&0xFFFF))
	case 0x0F:
		return objCost * bios.ObjTurn(c, r(0), r(1), int(r(2)&0xFFFF), r(3))
	case 0x11, 0x12, 0x13, 0x14, 0x15, 0x16, 0x17:
		return byteCost * bios.Unpack(c, r(0), r(1))
	}
	return 0
}

// divide stores a quotient, its rest, and its amount.
func (c *Console) divide(a, b uint32) int {
	q, rest, amount := bios.Div(int32(a), int32(b))
	c.cpu.Set(0, uint32(q))
	c.cpu.Set(1, uint32(rest))
	c.cpu.Set(3, uint32(amount))
	return divCost
}

// await lets a service wait for flags; fresh: those that were seen already don't count.
func (c *Console) await(flags uint16, fresh bool) {
	if fresh {
		setHalf(c.fast, flagsAt, half(c.fast, flagsAt)&^flags)
	}
	c.irq.Write(regMasterIrq, 1)
	c.awaited = flags
}
