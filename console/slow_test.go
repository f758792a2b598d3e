package console_test

import (
	"cameo/ahead"
	"cameo/api"
	"cameo/beam"
	"cameo/bg"
	"cameo/bios"
	"cameo/bus"
	"cameo/cpu"
	"cameo/dma"
	"cameo/irq"
	"cameo/mix"
	"cameo/save"
	"cameo/sound"
)

// slowTimer is one timer, which is looked at in each cycle.
type slowTimer struct {
	reload, control uint16
	count, since    int
}

// slow is the machine that proceeds cycle by cycle, by the chapter's words.
type slow struct {
	rom     string
	chip    *save.Backup
	mem     map[int][]byte
	reg     map[int]uint16
	scene   *bg.Scene
	mixing  *mix.Regs
	origins [2][2]int32
	waits   bus.Waits
	buf     *ahead.Buffer
	irq     *irq.Ctl
	timers  [4]slowTimer
	dma     *dma.Unit
	snd     *sound.Unit
	cpu     *cpu.CPU
	open    uint32
	now     int
	owner   int
	sleeps  bool
	flags   int

	began   int  // what Ready returned when the previous unit was begun
	wasLast bool // of the previous unit
	between bool // something came between

	trace   []api.Access
	picture []uint16
	frames  [][]uint16
	samples []api.Sample
}

func newSlow(rom string, chip *save.Backup) *slow {
	m := &slow{rom: rom, chip: chip, buf: ahead.New(), irq: irq.New(), dma: dma.New(), snd: sound.New(), waits: bus.Control(0), began: -1, reg: map[int]uint16{}, mixing: &mix.Regs{}}
	m.mem = map[int][]byte{api.RegWork: make([]byte, 0x40000), api.RegFast: make([]byte, 0x8000), api.RegPal: make([]byte, 0x400), api.RegVram: make([]byte, 0x18000), api.RegOam: make([]byte, 0x400)}
	m.scene = &bg.Scene{Vram: m.mem[api.RegVram], Pal: m.mem[api.RegPal], Oam: m.mem[api.RegOam]}
	m.scene.Par = [2][4]int16{{256, 0, 0, 256}, {256, 0, 0, 256}}
	m.beam()
	m.cpu = cpu.New(m, 0x8000000)
	m.cpu.Set(13, 0x3007F00)
	m.cpu.SetStatus(18)
	m.cpu.Set(13, 0x3007FA0)
	m.cpu.SetStatus(19)
	m.cpu.Set(13, 0x3007FE0)
	m.cpu.SetStatus(31)
	return m
}

// beam is the picture's part of a cycle.
func (m *slow) beam() {
	for bit := range 3 {
		if beam.Asks(m.now, m.reg[4])>>bit%2 == 1 {
			m.irq.Raise(bit)
		}
	}
	line, at := m.now/1232%228, m.now%1232
	if at == 960 && line < 160 {
		m.dma.Moment(dma.HBlank)
	}
	if at != 0 {
		return
	}
	if line < 160 {
		l := mix.Line(m.scene, m.mixing, line)
		m.picture = append(m.picture, l[:]...)
		for k := range 2 {
			m.scene.Ref[k][0] += int32(m.scene.Par[k][1])
			m.scene.Ref[k][1] += int32(m.scene.Par[k][3])
		}
		if line == 159 {
			m.frames, m.picture = append(m.frames, m.picture), nil
		}
	}
	if line == 160 {
		m.dma.Moment(dma.VBlank)
		m.scene.Ref = m.origins
	}
}

func (m *slow) alone(i int) bool {
	return m.timers[i].control&0x80 != 0 && (i == 0 || m.timers[i].control&4 == 0)
}

func (m *slow) tick() {
	m.now++
	m.beam()
	over := false
	var fired []int
	for i := range m.timers {
		c := &m.timers[i]
		up := false
		if m.alone(i) {
			up = (m.now-c.since)%[]int{1, 64, 256, 1024}[c.control&3] == 0
		} else if c.control&0x80 != 0 {
			up = over
		}
		over = false
		if up {
			if c.count++; c.count == 65536 {
				c.count, over = int(c.reload), true
				fired = append(fired, i)
				if m.alone(i) {
					c.since = m.now
				}
			}
		}
	}
	for _, i := range fired {
		if m.timers[i].control&0x40 != 0 {
			m.irq.Raise(3 + i)
		}
		if i < 2 {
			h := m.snd.Over(m.now, i)
			if h&1 != 0 {
				m.dma.Hungry(0x40000A0)
			}
			if h&2 != 0 {
				m.dma.Hungry(0x40000A4)
			}
		}
	}
	m.samples = append(m.samples, m.snd.Take(m.now)...)
}

func (m *slow) pass(n int) {
	for range n {
		m.tick()
	}
}

func (m *slow) rest(n int) {
	if m.waits.Ahead {
		a, _ := m.buf.Kept()
		for range n {
			m.buf.Rest(1, m.waits.Cost(a|2, 2, 1))
		}
	}
}

func (m *slow) note(a api.Access) {
	a.At, a.Owner = m.now, m.owner
	m.trace = append(m.trace, a)
}

func (m *slow) Fetch(addr uint32, width, class int) uint32 {
	x := m.peek(addr, width)
	m.open = x
	if width == 2 {
		m.open = x * 0x10001
	}
	m.note(api.Access{Addr: addr, Width: width, Data: x, Class: class})
	if top := addr >> 24; top >= 8 && top <= 13 && m.waits.Ahead {
		m.pass(m.buf.Fetch(addr, width/2, m.waits.Cost(addr, 2, 0), m.waits.Cost(addr|2, 2, 1)))
		return x
	}
	n := m.waits.Cost(addr, width, class)
	m.pass(n)
	m.rest(n)
	return x
}

func (m *slow) after(addr uint32, width, class int) {
	n := m.waits.Cost(addr, width, class)
	m.pass(n)
	if top := addr >> 24; top >= 8 && top <= 13 {
		m.buf.Drop()
	} else {
		m.rest(n)
	}
}

func (m *slow) Load(addr uint32, width, class int) uint32 {
	x := m.Read(addr, width)
	m.note(api.Access{Addr: addr, Width: width, Data: x, Class: class})
	m.after(addr, width, class)
	return x
}

func (m *slow) Store(addr uint32, width, class int, x uint32) {
	if width < 4 {
		x %= 1 << (8 * width)
	}
	m.note(api.Access{Addr: addr, Width: width, Write: true, Data: x, Class: class})
	m.Write(addr, width, x)
	m.after(addr, width, class)
}

func (m *slow) Idle(n int) {
	m.note(api.Access{Width: n, Class: api.ClassI})
	m.pass(n)
	m.rest(n)
}

// idler is an Idle by nobody, without resting.
func (m *slow) idler(n int) {
	m.owner = api.ByIdle
	m.note(api.Access{Width: n, Class: api.ClassI})
	m.pass(n)
	m.owner = api.ByCPU
}

var builtIn = []uint32{0xE1B0F00E, 0xE1B0F00E, 0xE1B0F00E, 0xE1B0F00E, 0xE1B0F00E, 0xE1B0F00E, 0xEA000000, 0xE1B0F00E, 0xE92D500F, 0xE3A00301, 0xE28FE000, 0xE510F004, 0xE8BD500F, 0xE25EF004}

func (m *slow) peekByte(addr uint32) uint32 {
	region, at := bus.Map(addr)
	switch region {
	case api.RegBios:
		if at/4 < len(builtIn) {
			return builtIn[at/4] >> (at % 4 * 8) % 256
		}
		return 0
	case api.RegRom:
		switch {
		case at < len(m.rom):
			return uint32(m.rom[at])
		case at == len(m.rom) && at%2 == 1:
			return 0
		}
		return uint32(at / 2 % 65536 >> (at % 2 * 8) % 256)
	}
	if b, ok := m.mem[region]; ok {
		return uint32(b[at])
	}
	return m.open >> (addr % 4 * 8) % 256
}

func (m *slow) peek(addr uint32, width int) uint32 {
	addr -= addr % uint32(width)
	x := uint32(0)
	for i := range width {
		x |= m.peekByte(addr+uint32(i)) << (8 * i)
	}
	return x
}

func (m *slow) serial(addr uint32) bool {
	return addr >= 0xD000000 && addr <= 0xDFFFFFF && m.chip.Serial()
}

func (m *slow) Read(addr uint32, width int) uint32 {
	low := addr - addr%uint32(width)
	region, at := bus.Map(low)
	switch {
	case region == api.RegSave:
		b := uint32(m.chip.Read(addr))
		return map[int]uint32{1: b, 2: b * 0x101, 4: b * 0x1010101}[width]
	case m.serial(addr):
		x := uint32(m.chip.Bit())
		if width == 4 {
			x |= uint32(m.chip.Bit()) << 16
		}
		return x
	case region == api.RegIO:
		switch width {
		case 1:
			return uint32(m.readReg(at-at%2)) >> (at % 2 * 8) % 256
		case 2:
			return uint32(m.readReg(at))
		}
		return uint32(m.readReg(at)) + uint32(m.readReg(at+2))<<16
	}
	return m.peek(addr, width)
}

func (m *slow) readReg(at int) uint16 {
	masks := map[int]uint16{0x60: 0x7F, 0x62: 0xFFC0, 0x68: 0xFFC0, 0x78: 0xFFC0, 0x64: 0x4000, 0x6C: 0x4000, 0x74: 0x4000, 0x70: 0xE0, 0x72: 0xE000, 0x7C: 0x40FF}
	switch at {
	case 4:
		return beam.Status(m.now, m.reg[4])
	case 6:
		return uint16(m.now / 1232 % 228)
	case 0, 2, 8, 10, 12, 14, 0x48, 0x4A, 0x50, 0x52, 0x204:
		return m.reg[at]
	case 0x80, 0x82, 0x84:
		return m.snd.Read(m.now, at/2-0x40)
	case 0x88:
		return m.snd.Read(m.now, 3)
	case 0xBA, 0xC6, 0xD2, 0xDE:
		return m.dma.Control((at - 0xBA) / 12)
	}
	switch {
	case at >= 0x60 && at <= 0x7C:
		return m.reg[at] & masks[at]
	case at >= 0x90 && at <= 0x9E:
		return uint16(m.snd.Psg().Peek(at-0x90)) + 256*uint16(m.snd.Psg().Peek(at-0x8F))
	case at >= 0x100 && at <= 0x10E && at%4 == 0:
		return uint16(m.timers[(at-0x100)/4].count)
	case at >= 0x100 && at <= 0x10E:
		return m.timers[(at-0x100)/4].control
	}
	return m.irq.Read(at)
}

func (m *slow) Write(addr uint32, width int, x uint32) {
	rest := addr % uint32(width)
	region, at := bus.Map(addr - rest)
	switch region {
	case api.RegSave:
		m.chip.Write(addr, byte(x>>(8*rest)))
	case api.RegWork, api.RegFast:
		for i := range width {
			m.mem[region][at+i] = byte(x >> (8 * i))
		}
	case api.RegPal, api.RegVram, api.RegOam:
		if width == 1 {
			limit := 0x10000
			if m.scene.Control%8 >= 3 {
				limit = 0x14000
			}
			if region == api.RegPal || region == api.RegVram && at < limit {
				m.mem[region][at-at%2], m.mem[region][at-at%2+1] = byte(x), byte(x)
			}
			return
		}
		for i := range width {
			m.mem[region][at+i] = byte(x >> (8 * i))
		}
	case api.RegRom:
		if m.serial(addr) {
			m.chip.Take(byte(x % 2))
			if width == 4 {
				m.chip.Take(byte(x >> 16 % 2))
			}
		}
	case api.RegIO:
		switch width {
		case 1:
			m.writeByte(at, byte(x))
		case 2:
			m.writeReg(at, uint16(x))
		case 4:
			m.writeReg(at, uint16(x))
			m.writeReg(at+2, uint16(x>>16))
		}
	}
}

func (m *slow) writeByte(at int, b byte) {
	even := at - at%2
	whole := m.reg[even]
	if at%2 == 0 {
		whole = whole/256*256 + uint16(b)
	} else {
		whole = whole%256 + 256*uint16(b)
	}
	switch {
	case at == 0x301:
		m.sleeps = true
		m.reg[0x300] = whole
	case at == 0x202:
		m.irq.Write(0x202, uint16(b))
	case at == 0x203:
		m.irq.Write(0x202, uint16(b)*256)
	case at >= 0x90 && at <= 0x9F:
		m.snd.Psg().Bank(m.now, at-0x90, b)
	case at >= 0xA0 && at <= 0xA7:
	default:
		m.writeReg(even, whole)
	}
}

func (m *slow) writeReg(at int, x uint16) {
	m.reg[at] = x
	s, r, p := m.scene, m.mixing, m.snd.Psg()
	simple := map[int]*uint16{0: &s.Control, 8: &s.Bg[0], 10: &s.Bg[1], 12: &s.Bg[2], 14: &s.Bg[3],
		0x10: &s.X[0], 0x12: &s.Y[0], 0x14: &s.X[1], 0x16: &s.Y[1], 0x18: &s.X[2], 0x1A: &s.Y[2], 0x1C: &s.X[3], 0x1E: &s.Y[3],
		0x40: &r.WinH[0], 0x42: &r.WinH[1], 0x44: &r.WinV[0], 0x46: &r.WinV[1], 0x48: &r.In, 0x4A: &r.Out, 0x4C: &s.Mosaic, 0x50: &r.Blend, 0x52: &r.Alpha, 0x54: &r.Bright}
	if place, ok := simple[at]; ok {
		*place = x
		return
	}
	signed := func(low int) int32 {
		v := int64(m.reg[low]) + int64(m.reg[low+2])%4096*65536
		if v >= 1<<27 {
			v -= 1 << 28
		}
		return int32(v)
	}
	psgRegs := map[int]int{0x60: 0, 0x62: 1, 0x64: 2, 0x68: 3, 0x6C: 4, 0x74: 9, 0x78: 7, 0x7C: 8}
	switch {
	case at >= 0x20 && at <= 0x26:
		s.Par[0][(at-0x20)/2] = int16(x)
	case at >= 0x30 && at <= 0x36:
		s.Par[1][(at-0x30)/2] = int16(x)
	case at >= 0x28 && at <= 0x3E:
		k, v := (at-0x28)/16, (at-0x28)%16/4
		m.origins[k][v] = signed(at - at%4)
		s.Ref[k][v] = m.origins[k][v]
	case at == 0x70 || at == 0x72:
		p.Write(m.now, 5, m.reg[0x70]%256+m.reg[0x72]%256*256)
		if at == 0x72 {
			p.Write(m.now, 6, x)
		}
	case at >= 0x60 && at <= 0x7C:
		if n, ok := psgRegs[at]; ok {
			p.Write(m.now, n, x)
		}
	case at == 0x80 || at == 0x82 || at == 0x84:
		m.snd.Write(m.now, at/2-0x40, x)
	case at == 0x88:
		m.snd.Write(m.now, 3, x)
	case at >= 0x90 && at <= 0x9E:
		p.Bank(m.now, at-0x90, byte(x))
		p.Bank(m.now, at-0x8F, byte(x>>8))
	case at == 0xA2 || at == 0xA6:
		m.snd.Feed((at-0xA2)/4, uint32(m.reg[at-2])+uint32(x)*65536)
	case at >= 0xB0 && at <= 0xDE:
		m.dma.Write((at-0xB0)/12, (at-0xB0)%12/2, x)
	case at >= 0x100 && at <= 0x10E:
		c := &m.timers[(at-0x100)/4]
		if at%4 == 0 {
			c.reload = x
			return
		}
		ran := c.control&0x80 != 0
		c.control, c.since = x&0xC7, m.now
		if !ran && x&0x80 != 0 {
			c.count = int(c.reload)
		}
	case at == 0x204:
		m.waits = bus.Control(x)
		m.buf.Drop()
	case at == 0x300:
		if x >= 256 {
			m.sleeps = true
		}
	default:
		m.irq.Write(at, x)
	}
}

// slowChannel is the memory of the channels.
type slowChannel struct{ m *slow }

func (s slowChannel) Load(ch int, addr uint32, width, class int) uint32 {
	s.m.owner = 1 + ch
	return s.m.Load(addr, width, class)
}

func (s slowChannel) Store(ch int, addr uint32, width, class int, x uint32) {
	s.m.owner = 1 + ch
	s.m.Store(addr, width, class, x)
}

func (m *slow) Soft(n int) {
	r := m.cpu.Get
	cost := 0
	switch n {
	case 2:
		m.sleeps = true
	case 4, 5:
		f := int(r(1) % 65536)
		if n == 5 {
			f = 1
		}
		if n == 5 || r(0)%2 == 1 {
			b := m.mem[api.RegFast]
			b[0x7FF8] &^= byte(f)
			b[0x7FF9] &^= byte(f >> 8)
		}
		m.irq.Write(0x208, 1)
		m.flags = f
	case 6, 7:
		a, b := r(0), r(1)
		if n == 7 {
			a, b = b, a
		}
		q, rest, abs := bios.Div(int32(a), int32(b))
		m.cpu.Set(0, uint32(q))
		m.cpu.Set(1, uint32(rest))
		m.cpu.Set(3, uint32(abs))
		cost = 40
	case 8:
		m.cpu.Set(0, bios.Sqrt(r(0)))
		cost = 50
	case 9:
		m.cpu.Set(0, uint32(bios.ArcTan(int32(int16(r(0))))))
		cost = 30
	case 10:
		m.cpu.Set(0, uint32(bios.ArcTan2(int32(int16(r(0))), int32(int16(r(1))))))
		cost = 60
	case 11:
		cost = 4 * bios.Copy(m, r(0), r(1), r(2), false)
	case 12:
		cost = 4 * bios.Copy(m, r(0), r(1), r(2), true)
	case 14:
		cost = 20 * bios.BgTurn(m, r(0), r(1), int(r(2)%65536))
	case 15:
		cost = 15 * bios.ObjTurn(m, r(0), r(1), int(r(2)%65536), r(3))
	case 17, 18, 19, 20, 21, 22, 23:
		cost = 6 * bios.Unpack(m, r(0), r(1))
	}
	m.Idle(10 + cost)
}

// toEvent tells how far the next event lies, or the end.
func (m *slow) toEvent(end int) int {
	best := end
	for at := m.now + 1; at < best; at++ {
		if at%1232 == 0 || at%1232 == 960 {
			best = at
		}
	}
	for i, c := range m.timers {
		if m.alone(i) {
			best = min(best, c.since+(65536-m.countAt(i))*[]int{1, 64, 256, 1024}[c.control&3])
		}
	}
	return best - m.now
}

// countAt gives the count that a timer had when its step began.
func (m *slow) countAt(i int) int {
	c := m.timers[i]
	return c.count - (m.now-c.since)/[]int{1, 64, 256, 1024}[c.control&3]
}

func (m *slow) run(n int) {
	for end := m.now + n; m.now < end; {
		m.one(end)
	}
}

func (m *slow) one(end int) {
	if ready := m.dma.Ready(); ready >= 0 {
		if !(ready == m.began && !m.wasLast && !m.between) {
			m.idler(2)
		}
		ch, done, asks := m.dma.Step(slowChannel{m})
		m.owner = api.ByCPU
		if done && asks {
			m.irq.Raise(8 + ch)
		}
		m.began, m.wasLast, m.between = ready, done, false
		return
	}
	if m.sleeps {
		if !m.irq.Wakes() {
			m.between = true
			m.idler(m.toEvent(end))
			return
		}
		m.sleeps = false
	}
	if m.irq.Fires() && m.cpu.Interrupt() {
		return
	}
	if m.flags != 0 && m.cpu.Status()%32 != 18 {
		b := m.mem[api.RegFast]
		seen := int(b[0x7FF8]) + 256*int(b[0x7FF9])
		if seen&m.flags == 0 {
			m.between = true
			if m.irq.Wakes() {
				m.idler(m.toEvent(end))
			}
			m.sleeps = true
			return
		}
		seen &^= m.flags
		b[0x7FF8], b[0x7FF9] = byte(seen), byte(seen>>8)
		m.flags = 0
	}
	m.between = true
	m.cpu.Step()
}
