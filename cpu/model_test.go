package cpu_test

import (
	"cameo/alu"
	"cameo/api"
	"cameo/arm"
	"cameo/bank"
	"cameo/shift"
	"cameo/thumb"
)

// access is what happens on a bus: F, L, S, I (idle) or W (a service).
type access struct {
	what         byte
	addr         uint32
	width, class int
	x            uint32
}

// tape is a bus whose memory is a rule, with what was written over it.
type tape struct {
	log   []access
	bytes map[uint32]byte
	rule  func(addr uint32) byte
}

func (b *tape) at(addr uint32) byte {
	if x, ok := b.bytes[addr]; ok {
		return x
	}
	return b.rule(addr)
}

func (b *tape) value(addr uint32, width int) uint32 {
	x := uint32(0)
	for i := range width {
		x |= uint32(b.at(addr+uint32(i))) << (8 * i)
	}
	return x
}

func (b *tape) Fetch(addr uint32, width, class int) uint32 {
	x := b.value(addr, width)
	b.log = append(b.log, access{'F', addr, width, class, x})
	return x
}

func (b *tape) Load(addr uint32, width, class int) uint32 {
	x := b.value(addr, width)
	b.log = append(b.log, access{'L', addr, width, class, x})
	return x
}

func (b *tape) Store(addr uint32, width, class int, x uint32) {
	b.log = append(b.log, access{'S', addr, width, class, x})
	for i := range width {
		b.bytes[addr+uint32(i)] = byte(x >> (8 * i))
	}
}

func (b *tape) Idle(n int) { b.log = append(b.log, access{'I', 0, n, 0, 0}) }
func (b *tape) Soft(n int) { b.log = append(b.log, access{'W', 0, n, 0, 0}) }

// model is the processor by the chapter's words: one long list.
type model struct {
	*bank.Bank
	b       *tape
	pipe    []uint32
	nonSeq  bool
	written bool
}

func (m *model) width() uint32 {
	if m.Status()>>5&1 == 1 {
		return 2
	}
	return 4
}

func (m *model) jump(addr uint32) {
	w := m.width()
	addr -= addr % w
	m.pipe = []uint32{m.b.Fetch(addr, int(w), 0), m.b.Fetch(addr+w, int(w), 1)}
	m.Set(15, addr+2*w)
	m.nonSeq = false
}

func (m *model) set(i int, x uint32) {
	m.Set(i, x)
	m.written = m.written || i == 15
}

func (m *model) load(kind byte, addr uint32) uint32 {
	m.nonSeq = true
	switch kind {
	case 'w':
		x := m.b.Load(addr/4*4, 4, 0)
		n := addr % 4 * 8
		return x>>n | x<<(32-n)
	case 'b':
		return m.b.Load(addr, 1, 0)
	case 'h':
		x := m.b.Load(addr/2*2, 2, 0)
		if addr%2 == 1 {
			x = x>>8 | x<<24
		}
		return x
	case 's':
		x := m.b.Load(addr, 1, 0)
		if x >= 128 {
			x -= 256
		}
		return x
	}
	x := m.b.Load(addr, 2, 0)
	if x >= 32768 {
		x -= 65536
	}
	return x
}

func (m *model) store(kind byte, addr, x uint32) {
	m.nonSeq = true
	switch kind {
	case 'w':
		m.b.Store(addr/4*4, 4, 0, x)
	case 'b':
		m.b.Store(addr, 1, 0, x%256)
	case 'h':
		m.b.Store(addr/2*2, 2, 0, x%65536)
	}
}

func (m *model) out(i int, w uint32) uint32 {
	if i == 15 {
		return m.Get(15) + w
	}
	return m.Get(i)
}

func (m *model) step() {
	w := m.width()
	class := 1
	if m.nonSeq {
		class = 0
	}
	m.nonSeq = false
	word := m.pipe[0]
	m.pipe = []uint32{m.pipe[1], m.b.Fetch(m.Get(15), int(w), class)}
	var x api.Instr
	if w == 2 {
		x = thumb.Decode(uint16(word))
	} else {
		x = arm.Decode(word)
	}
	m.written = false
	if alu.Holds(x.Cond, bank.Flags(m.Status())) {
		m.do(x, w)
	}
	if m.written {
		m.jump(m.Get(15))
	} else {
		m.Set(15, m.Get(15)+w)
	}
}

func (m *model) flags(on bool, f api.Flags) {
	if on {
		m.SetStatus(bank.With(m.Status(), f))
	}
}

func (m *model) do(x api.Instr, w uint32) {
	f := bank.Flags(m.Status())
	pc := m.Get(15)
	switch x.Kind {
	case api.OpData:
		m.data(x, f)
	case api.OpMul, api.OpMulLong:
		m.product(x, f)
	case api.OpSwap:
		kind := byte('w')
		if x.Byte {
			kind = 'b'
		}
		a := m.Get(x.Rn)
		v := m.load(kind, a)
		m.store(kind, a, m.out(x.Rm, w))
		m.b.Idle(1)
		m.set(x.Rd, v)
	case api.OpWord, api.OpHalf:
		m.single(x, w, f)
	case api.OpBlock:
		m.block(x, w)
	case api.OpBranch:
		if x.Link {
			m.Set(14, pc-4)
		}
		m.set(15, pc+x.Imm)
	case api.OpBX:
		v := m.Get(x.Rm)
		m.SetStatus(m.Status()&^0x20 | v%2*0x20)
		m.set(15, v-v%2)
	case api.OpLink:
		if x.Code == 0 {
			m.Set(14, pc+x.Imm)
		} else {
			to := m.Get(14) + x.Imm
			m.set(15, to-to%2)
			m.Set(14, (pc-2)|1)
		}
	case api.OpSoft:
		m.b.Soft(int(x.Imm))
	case api.OpGetPSR:
		v := m.Status()
		if x.User {
			v = m.Saved()
		}
		m.set(x.Rd, v)
	case api.OpSetPSR:
		m.psr(x)
	case api.OpUndefined:
		m.Enter(api.Undefined, pc-w)
		m.set(15, 4)
	}
}

func (m *model) data(x api.Instr, f api.Flags) {
	more := uint32(0)
	if x.ByReg {
		m.b.Idle(1)
		more = 4
	}
	get := func(i int) uint32 {
		if i == 15 {
			return m.Get(15) + more
		}
		return m.Get(i)
	}
	var b uint32
	var c bool
	switch {
	case x.HasImm:
		b, c = shift.Turned(x.Imm, x.Amount, f.C)
	case x.ByReg:
		b, c = shift.Reg(x.Shift, get(x.Rm), m.Get(x.Rs), f.C)
	default:
		b, c = shift.Imm(x.Shift, get(x.Rm), x.Amount, f.C)
	}
	a := get(x.Rn)
	if x.Align {
		a -= a % 4
	}
	y, g := alu.Do(x.Code, a, b, f, c)
	if x.Flags && x.Rd == 15 && !alu.Keeps(x.Code) {
		m.SetStatus(m.Saved())
	} else {
		m.flags(x.Flags, g)
	}
	if !alu.Keeps(x.Code) {
		m.set(x.Rd, y)
	}
}

func (m *model) product(x api.Instr, f api.Flags) {
	s := m.Get(x.Rs)
	extra := 0
	if x.Long {
		extra = 1
	}
	if x.Kind == api.OpMul {
		m.b.Idle(alu.Cycles(s, true) + extra)
		sum := uint32(0)
		if x.Long {
			sum = m.Get(x.Rn)
		}
		y, g := alu.Mul(m.Get(x.Rm), s, sum, f)
		m.set(x.Rd, y)
		m.flags(x.Flags, g)
		return
	}
	m.b.Idle(alu.Cycles(s, x.Signed) + 1 + extra)
	sum := uint64(0)
	if x.Long {
		sum = uint64(m.Get(x.Rd))*(1<<32) + uint64(m.Get(x.Rn))
	}
	y, g := alu.MulLong(m.Get(x.Rm), s, x.Signed, sum, f)
	m.flags(x.Flags, g)
	m.set(x.Rn, uint32(y%(1<<32)))
	m.set(x.Rd, uint32(y/(1<<32)))
}

func (m *model) single(x api.Instr, w uint32, f api.Flags) {
	offset := x.Imm
	if !x.HasImm {
		offset = m.Get(x.Rm)
		if x.Kind == api.OpWord {
			offset, _ = shift.Imm(x.Shift, offset, x.Amount, f.C)
		}
	}
	base := m.Get(x.Rn)
	if x.Align {
		base -= base % 4
	}
	end := base + offset
	if !x.Up {
		end = base - offset
	}
	addr := end
	if !x.Pre {
		addr = base
	}
	kind := byte('w')
	switch {
	case x.Kind == api.OpWord && x.Byte:
		kind = 'b'
	case x.Kind == api.OpHalf && x.Code == 1:
		kind = 'h'
	case x.Kind == api.OpHalf && (x.Code == 2 || addr%2 == 1):
		kind = 's'
	case x.Kind == api.OpHalf:
		kind = 'z'
	}
	if !x.Load {
		m.store(kind, addr, m.out(x.Rd, w))
		if x.Back {
			m.set(x.Rn, end)
		}
		return
	}
	v := m.load(kind, addr)
	m.b.Idle(1)
	if x.Back {
		m.set(x.Rn, end)
	}
	if x.Rd == 15 {
		v -= v % 2
	}
	m.set(x.Rd, v)
}

func (m *model) block(x api.Instr, w uint32) {
	var regs []int
	for i := range 16 {
		if x.List>>i%2 == 1 {
			regs = append(regs, i)
		}
	}
	size := uint32(4 * len(regs))
	if len(regs) == 0 {
		regs, size = []int{15}, 64
	}
	has15 := regs[len(regs)-1] == 15
	base := m.Get(x.Rn)
	addr, end := base, base+size
	if !x.Up {
		addr, end = base-size, base-size
	}
	if x.Up && x.Pre || !x.Up && !x.Pre {
		addr += 4
	}
	user := x.User && !(x.Load && has15)
	if x.Load && x.Back {
		m.set(x.Rn, end)
	}
	for k, i := range regs {
		class := 1
		if k == 0 {
			class = 0
		}
		a := addr - addr%4
		if x.Load {
			v := m.b.Load(a, 4, class)
			switch {
			case i == 15:
				if x.User {
					m.SetStatus(m.Saved())
				}
				m.set(15, v-v%2)
			case user:
				m.SetUser(i, v)
			default:
				m.set(i, v)
			}
		} else {
			v := m.out(i, w)
			if user && i != 15 {
				v = m.User(i)
			}
			m.b.Store(a, 4, class, v)
			if k == 0 && x.Back {
				m.set(x.Rn, end)
			}
		}
		addr += 4
	}
	if x.Load {
		m.b.Idle(1)
	}
	m.nonSeq = true
}

func (m *model) psr(x api.Instr) {
	v := m.Get(x.Rm)
	if x.HasImm {
		v, _ = shift.Turned(x.Imm, x.Amount, false)
	}
	old := m.Status()
	if x.User {
		old = m.Saved()
	}
	fresh := old
	if x.List>>3%2 == 1 {
		fresh = fresh%(1<<24) + v>>24<<24
	}
	if x.List%2 == 1 && (x.User || m.Status()%32 != 16) {
		fresh = fresh>>8<<8 + v%256
	}
	if x.User {
		m.SetSaved(fresh)
		return
	}
	m.SetStatus(fresh&^0x20 | old&0x20)
}
