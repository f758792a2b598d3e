package cpu

import (
	"cameo/alu"
	"cameo/api"
	"cameo/shift"
)

// Bits of a status word, and of the list of those that OpSetPSR stores.
const (
	modeBits   = 31
	flagBits   = 0xFF000000
	lowBits    = 0x000000FF
	storeFlags = 1 << 3
	storeLow   = 1 << 0
)

// number gives a flag as a number.
func number(set bool) int {
	if set {
		return 1
	}
	return 0
}

// operand gives a register that an operation works on; while a shift's amount is read, the counter goes on.
func (c *CPU) operand(i int) uint32 {
	x := c.Get(i)
	if i == counter && c.instr.ByReg {
		x += 4
	}
	return x
}

// second gives the second operand, and the carry of the shifter.
func (c *CPU) second(carry bool) (uint32, bool) {
	x := &c.instr
	switch {
	case x.HasImm:
		return shift.Turned(x.Imm, x.Amount, carry)
	case x.ByReg:
		return shift.Reg(x.Shift, c.operand(x.Rm), c.Get(x.Rs), carry)
	}
	return shift.Imm(x.Shift, c.operand(x.Rm), x.Amount, carry)
}

// data: data processing.
func (c *CPU) data() {
	x := &c.instr
	if x.ByReg {
		c.bus.Idle(1)
	}
	f := c.flags()
	b, carry := c.second(f.C)
	a := c.operand(x.Rn)
	if x.Align {
		a &^= 3
	}
	result, f := alu.Do(x.Code, a, b, f, carry)
	keeps := alu.Keeps(x.Code)
	switch {
	case x.Flags && x.Rd == counter && !keeps:
		c.SetStatus(c.Saved())
	case x.Flags:
		c.setFlags(f)
	}
	if !keeps {
		c.put(x.Rd, result)
	}
}

// mul: a product of 32 bits.
func (c *CPU) mul() {
	x := &c.instr
	m, s := c.Get(x.Rm), c.Get(x.Rs)
	c.bus.Idle(alu.Cycles(s, true) + number(x.Long))
	sum := uint32(0)
	if x.Long {
		sum = c.Get(x.Rn)
	}
	result, f := alu.Mul(m, s, sum, c.flags())
	c.put(x.Rd, result)
	if x.Flags {
		c.setFlags(f)
	}
}

// mulLong: a product of 64 bits.
func (c *CPU) mulLong() {
	x := &c.instr
	m, s := c.Get(x.Rm), c.Get(x.Rs)
	c.bus.Idle(alu.Cycles(s, x.Signed) + 1 + number(x.Long))
	sum := uint64(0)
	if x.Long {
		sum = uint64(c.Get(x.Rd))<<32 | uint64(c.Get(x.Rn))
	}
	result, f := alu.MulLong(m, s, x.Signed, sum, c.flags())
	if x.Flags {
		c.setFlags(f)
	}
	c.put(x.Rn, uint32(result))
	c.put(x.Rd, uint32(result>>32))
}

// branch: B, BL.
func (c *CPU) branch() {
	at := c.Get(counter)
	if c.instr.Link {
		c.Set(link, at-4)
	}
	c.put(counter, at+c.instr.Imm)
}

// exchange: BX.
func (c *CPU) exchange() {
	to := c.Get(c.instr.Rm)
	status := c.Status() &^ thumbBit
	if to&1 != 0 {
		status |= thumbBit
	}
	c.SetStatus(status)
	c.put(counter, to&^1)
}

// linked: one half of Thumb's BL.
func (c *CPU) linked() {
	at := c.Get(counter)
	if c.instr.Code == 0 {
		c.Set(link, at+c.instr.Imm)
		return
	}
	c.put(counter, (c.Get(link)+c.instr.Imm)&^1)
	c.Set(link, at-2|1)
}

// soft: a service.
func (c *CPU) soft() { c.bus.Soft(int(c.instr.Imm)) }

// getPSR: a status into a register.
func (c *CPU) getPSR() {
	if c.instr.User {
		c.put(c.instr.Rd, c.Saved())
		return
	}
	c.put(c.instr.Rd, c.Status())
}

// setPSR: a value into a part of a status.
func (c *CPU) setPSR() {
	x := &c.instr
	value := c.Get(x.Rm)
	if x.HasImm {
		value, _ = shift.Turned(x.Imm, x.Amount, false)
	}
	bits := uint32(0)
	if x.List&storeFlags != 0 {
		bits |= flagBits
	}
	if x.List&storeLow != 0 {
		bits |= lowBits
	}
	if x.User {
		c.SetSaved(c.Saved()&^bits | value&bits)
		return
	}
	if c.Status()&modeBits == api.User {
		bits &^= lowBits
	}
	bits &^= thumbBit
	c.SetStatus(c.Status()&^bits | value&bits)
}

// undefined: an exception.
func (c *CPU) undefined() {
	c.Enter(api.Undefined, c.Get(counter)-uint32(c.width))
	c.put(counter, undefinedAt)
}
