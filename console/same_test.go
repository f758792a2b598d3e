package console_test

import (
	"math/rand"
	"slices"
	"testing"

	"cameo/api"
	"cameo/bios"
	"cameo/console"
	"cameo/cpu"
	"cameo/save"
)

var (
	_ cpu.Bus     = (*console.Console)(nil)
	_ bios.Memory = (*console.Console)(nil)
)

// handler clears what is requested and enabled, and notes it at 3007FF8; it stands behind the first word of each cartridge.
var handler = []uint32{0xE5901200, 0xE0011821, 0xE2802C02, 0xE1C210B2, 0xE15030B8, 0xE1833001, 0xE14030B8, 0xE12FFF1E}

// program is a cartridge that grows word by word.
type program struct {
	r       *rand.Rand
	words   []uint32
	painted bool // the picture is to be seen
}

func (p *program) emit(w ...uint32) { p.words = append(p.words, w...) }

// store writes a value to an address.
func (p *program) store(addr uint32, width int, x uint32) {
	op := map[int]uint32{1: 0xE5C12000, 2: 0xE1C120B0, 4: 0xE5812000}[width]
	p.emit(0xE59F1008, 0xE59F2008, op, 0xEA000001, addr, x)
}

// load reads an address into register 5.
func (p *program) load(addr uint32, width int) {
	op := map[int]uint32{1: 0xE5D15000, 2: 0xE1D150B0, 4: 0xE5915000}[width]
	p.emit(0xE59F1008, 0xE59F2008, op, 0xEA000001, addr, 0)
}

// service calls one with four registers.
func (p *program) service(n, a, b, c, d uint32) {
	p.emit(0xE59F0010, 0xE59F1010, 0xE59F2010, 0xE59F3010, 0xEF000000|n<<16, 0xEA000003, a, b, c, d)
}

// delay counts down.
func (p *program) delay(n uint32) { p.emit(0xE3A04000|n&0xFF, 0xE2544001, 0x1AFFFFFD) }

func (p *program) pick(all ...uint32) uint32 { return all[p.r.Intn(len(all))] }

// place gives an address of some memory.
func (p *program) place() uint32 {
	base := p.pick(0x2000000, 0x2000000, 0x3000000, 0x3000100, 0x5000000, 0x6000000, 0x6010000, 0x6013FF0, 0x6017FE0, 0x7000000, 0x8000000, 0xA000100, 0xC01FFE0, 0x801FFF0, 0xD000000, 0xDFFFFF0, 0xE000000, 0xF005550, 0x4000000, 0x4000060, 0x4000090, 0x40000B0, 0, 0x18, 0x4000, 0x1000000, 0x10000000, 0x9FFFFFC, 0x8000F00)
	return base + uint32(p.r.Intn(64))
}

// word gives a value: often one of few bits, or an address.
func (p *program) word() uint32 {
	switch p.r.Intn(4) {
	case 0:
		return 1 << p.r.Intn(32)
	case 1:
		return uint32(p.r.Intn(1024))
	case 2:
		return p.place()
	}
	return p.r.Uint32()
}

func (p *program) timer() {
	i := uint32(p.r.Intn(4))
	reload := 0x10000 - p.pick(1, 2, 5, 30, 100, 300, 1000, 40000)
	if p.r.Intn(8) > 0 && reload > 0xFFFA {
		reload -= 200
	}
	p.store(0x4000100+4*i, 4, reload&0xFFFF|p.pick(0x80, 0xC0, 0x84, 0xC4, 0xC1, 0x82, 0xC3, 0)<<16)
}

func (p *program) channel() {
	i := uint32(p.r.Intn(4))
	base := 0x40000B0 + 12*i
	p.store(base, 4, p.place())
	to := p.place()
	control := p.pick(0x8000, 0x8400, 0xC000, 0xC400, 0x9200, 0xA200, 0xA640, 0xE600, 0x96E0, 0x8480, 0xF000) | p.pick(0, 0, 0x20, 0x40, 0x60, 0x80, 0x100)
	if p.r.Intn(4) == 0 {
		i = 1 + uint32(p.r.Intn(2))
		base = 0x40000B0 + 12*i
		to, control = p.pick(0x40000A0, 0x40000A4), 0xB600
	}
	p.store(base+4, 4, to)
	count := uint32(1 + p.r.Intn(20))
	if p.r.Intn(60) == 0 {
		count = 0
	}
	p.store(base+8, 4, count|control<<16)
}

func (p *program) sounds() {
	p.store(0x4000084, 2, 0x80)
	p.store(0x4000080, 4, p.r.Uint32()|0x0304FF77)
	p.store(0x4000062, 2, p.r.Uint32()|0x8000)
	p.store(0x4000064, 2, p.r.Uint32()|0x8000)
	p.store(0x4000068, 2, p.r.Uint32()|0x8000)
	p.store(0x400006C, 2, p.r.Uint32()|0x8000)
	p.store(0x4000070, 2, p.r.Uint32()|0x80)
	p.store(0x4000072, 2, p.r.Uint32())
	p.store(0x4000074, 2, p.r.Uint32()|0x8000)
	p.store(0x4000078, 2, p.r.Uint32()|0xF000)
	p.store(0x400007C, 2, p.r.Uint32()&0xFF0F|0x8000)
	p.timer()
}

func (p *program) interrupts() {
	p.store(0x4000200, 2, p.r.Uint32())
	p.store(0x4000004, 2, p.r.Uint32()&0xFF|uint32(p.r.Intn(230))<<8)
	p.store(0x4000132, 2, p.r.Uint32())
	p.store(0x4000208, 2, p.pick(0, 1, 1, 1))
}

// wakeable makes sure that a machine that sleeps wakes again, as a rule.
func (p *program) wakeable() {
	p.store(0x4000004, 2, 0x38|uint32(p.r.Intn(228))<<8)
	p.store(0x4000200, 2, p.r.Uint32()|3)
	p.store(0x4000208, 2, p.pick(0, 1, 1, 1))
}

// paint fills the picture's memories from the cartridge and what lies behind it.
func (p *program) paint() {
	p.painted = true
	p.service(12, 0x8000000, 0x5000000, 0x100, 0)
	p.service(12, 0x8000200, 0x7000000, 0x100, 0)
	p.service(11, 0x8002000, 0x6000000+uint32(p.r.Intn(8))*0x2000, 0x4001800, 0)
	p.service(11, 0x8004000, 0x6010000, 0x4000800, 0)
	p.store(0x4000000, 2, p.r.Uint32()&^0x80|0x1F00)
	for k := range uint32(4) {
		p.store(0x4000008+2*k, 2, p.r.Uint32()&^0x0C)
	}
	p.store(0x4000048, 4, p.r.Uint32()|0x3F001F00)
	p.store(0x4000050, 4, p.r.Uint32())
}

func (p *program) someService() {
	n := p.pick(2, 4, 5, 6, 7, 8, 9, 10, 11, 12, 14, 15, 17, 18, 19, 20, 21, 22, 23, 0, 1, 3, 13, 16, 24, 99)
	a, b, c, d := p.word(), p.word(), p.word(), p.word()
	switch n {
	case 4:
		a, b = p.pick(0, 1), p.r.Uint32()&0x3F
	case 11, 12:
		a, b, c = p.place(), p.place(), c&0xFF000000|uint32(p.r.Intn(40))
	case 14, 15:
		a, b, c, d = p.place(), p.place(), uint32(p.r.Intn(4)), p.pick(2, 8)
	case 17, 18, 19, 20, 21, 22, 23, 24:
		a, b = 0x3000200, p.place()
		p.store(a, 4, uint32(p.r.Intn(60))<<8|p.pick(0x10, 0x24, 0x28, 0x30, 0x81))
		for k := range uint32(4) {
			p.store(a+4+4*k, 4, p.r.Uint32())
		}
	}
	if n == 2 || n == 4 || n == 5 {
		p.wakeable()
	}
	p.service(n, a, b, c, d)
}

// thumbPart is a piece of Thumb code of its own, which comes back.
func (p *program) thumbPart() {
	// ADD r6, r15, #1; BX r6, into Thumb code behind it
	p.emit(0xE28F6001, 0xE12FFF16)
	halves := []uint16{0x4801, 0x3001, 0xE002, 0x1234, 0x5678, 0x9ABC, 0x2003, 0x3801, 0xD1FD, 0xB403, 0xBC0C}
	for range p.r.Intn(6) {
		halves = append(halves, uint16(p.pick(0x1840, 0x4348, 0x0049, 0x4240, 0xA101, 0x680C, 0x8809, 0xDF06)))
	}
	// An even number of halfwords, then BX r15 back to ARM code.
	if len(halves)%2 == 1 {
		halves = append(halves, 0x46C0)
	}
	halves = append(halves, 0x4778, 0x46C0)
	for i := 0; i < len(halves); i += 2 {
		p.emit(uint32(halves[i]) | uint32(halves[i+1])<<16)
	}
}

// inFast copies code to the fast memory and executes it there.
func (p *program) inFast() {
	at := uint32(0x3004000)
	for k, w := range []uint32{0xE2800001, 0xE2811003, 0xE0020190, 0xE12FFF1E} {
		p.store(at+4*uint32(k), 4, w)
	}
	// LDR r6, literal; MOV r14, r15; BX r6; B past the literal
	p.emit(0xE59F6008, 0xE1A0E00F, 0xE12FFF16, 0xEA000000, at)
}

func randomProgram(r *rand.Rand) string {
	p := &program{r: r}
	p.emit(0xEA000000 + uint32(len(handler)) - 1)
	p.emit(handler...)
	p.store(0x3007FFC, 4, 0x8000004)
	if r.Intn(2) == 0 {
		p.store(0x4000204, 2, r.Uint32()|uint32(r.Intn(2))<<14)
	}
	p.store(0x4000000, 2, r.Uint32()&^0x80|0x1000)
	if r.Intn(2) == 0 {
		p.paint()
	}
	loop := len(p.words)
	for range 60 {
		switch r.Intn(18) {
		case 0, 1, 2:
			at := uint32(r.Intn(0x56))
			if p.painted {
				at = 8 + at%0x4E
			}
			p.store(0x4000000+at, []int{1, 2, 4}[r.Intn(3)], p.word())
		case 3:
			p.store(0x4000060+uint32(r.Intn(0x50)), []int{1, 2, 4}[r.Intn(3)], p.word())
		case 4:
			p.store(p.pick(0x4000130, 0x4000200, 0x4000202, 0x4000203, 0x4000204, 0x4000208, 0x4000128, 0x40003FC)+uint32(r.Intn(2)), []int{1, 2, 4}[r.Intn(3)], p.word())
		case 5, 6:
			p.store(p.place(), []int{1, 2, 4}[r.Intn(3)], p.word())
		case 7, 8:
			p.load(p.place(), []int{1, 2, 4}[r.Intn(3)])
		case 9:
			p.load(0x4000000+uint32(r.Intn(0x20C)), []int{1, 2, 4}[r.Intn(3)])
		case 10:
			p.timer()
		case 11:
			p.channel()
		case 12:
			p.sounds()
		case 13:
			p.interrupts()
		case 14:
			p.someService()
		case 15:
			p.delay(uint32(r.Intn(256)))
		case 16:
			p.thumbPart()
		case 17:
			p.inFast()
			if r.Intn(3) == 0 {
				p.wakeable()
				p.store(0x4000301, 1, p.word())
			}
			if r.Intn(9) == 0 {
				p.store(0x4000300, 2, p.word())
			}
		}
	}
	p.emit(0xEA000000 | uint32(loop-len(p.words)-2)&0xFFFFFF)
	return words(p.words...)
}

func chips(t *testing.T, kind int) (*save.Backup, *save.Backup) {
	t.Helper()
	a, e := save.New(kind, "")
	b, _ := save.New(kind, "")
	if e != api.OK {
		t.Fatal(e)
	}
	return a, b
}

// compare tells the first place where both machines differ.
func compare(t *testing.T, seed int, c *console.Console, m *slow) {
	t.Helper()
	if c.Now() != m.now {
		t.Errorf("%d: cycle %d, want %d", seed, c.Now(), m.now)
	}
	trace := c.Trace()
	for i := range min(len(trace), len(m.trace)) {
		if trace[i] != m.trace[i] {
			t.Fatalf("%d: access %d of %d: %v, want %v", seed, i, len(trace), trace[max(0, i-4):i+1], m.trace[max(0, i-4):i+1])
		}
	}
	if len(trace) != len(m.trace) {
		t.Fatal(seed, len(trace), len(m.trace))
	}
	for i := range 16 {
		if c.Register(i) != m.cpu.Get(i) {
			t.Fatal(seed, i, c.Register(i), m.cpu.Get(i))
		}
	}
	if s := c.Samples(); !slices.Equal(s, m.samples) {
		t.Fatal(seed, "samples", len(s), len(m.samples))
	}
	frames := c.Frames()
	if len(frames) != len(m.frames) {
		t.Fatal(seed, "pictures")
	}
	for i := range frames {
		if !slices.Equal(frames[i], m.frames[i]) {
			t.Fatal(seed, "picture", i)
		}
	}
	m.trace, m.samples, m.frames = nil, nil, nil
}

func compareMemory(t *testing.T, seed int, c *console.Console, m *slow) {
	t.Helper()
	for _, x := range [][2]uint32{{0x2000000, 0x40000}, {0x3000000, 0x8000}, {0x5000000, 0x400}, {0x6000000, 0x18000}, {0x7000000, 0x400}, {0x4000000, 0x300}} {
		for a := x[0]; a < x[0]+x[1]; a += 4 {
			if c.Read(a, 4) != m.Read(a, 4) {
				t.Fatalf("%d: %x: %x, want %x", seed, a, c.Read(a, 4), m.Read(a, 4))
			}
		}
	}
	if c.Backup().Image() != m.chip.Image() {
		t.Fatal(seed, "chip")
	}
}

func TestTheSameMachine(t *testing.T) {
	owners := map[int]int{}
	for seed := range 120 {
		r := rand.New(rand.NewSource(int64(seed)))
		rom := randomProgram(r)
		a, b := chips(t, seed%6)
		c, e := console.New(rom, a)
		if e != api.OK {
			t.Fatal(e)
		}
		m := newSlow(rom, b)
		total := 60000
		if seed%10 == 0 {
			total = 700000
		}
		for left := total; left > 0; {
			n := r.Intn(9000)
			if seed%7 == 0 {
				n = r.Intn(200)
			}
			if r.Intn(3) == 0 {
				keys := uint16(r.Uint32())
				c.Keys(keys)
				m.irq.Keys(keys)
			}
			if e := c.Run(n); e != api.OK {
				t.Fatal(e)
			}
			m.run(n)
			for _, x := range m.trace {
				owners[x.Owner]++
			}
			compare(t, seed, c, m)
			left -= max(n, 1)
		}
		compareMemory(t, seed, c, m)
	}
	for owner := range 6 {
		if owners[owner] < 100 {
			t.Fatal("hardly any accesses by", owner, owners)
		}
	}
}

// A cartridge of chance: whatever it executes.
func TestTheSameMachineByChance(t *testing.T) {
	for seed := range 200 {
		r := rand.New(rand.NewSource(int64(seed)))
		b := make([]byte, 1+r.Intn(4000))
		r.Read(b)
		for i := 3; i < len(b); i += 4 {
			if r.Intn(4) > 0 {
				b[i] = 0xE0 | b[i]&15
			}
		}
		x, y := chips(t, seed%6)
		c, _ := console.New(string(b), x)
		m := newSlow(string(b), y)
		for range 5 {
			n := r.Intn(4000)
			c.Run(n)
			m.run(n)
			compare(t, seed, c, m)
		}
		compareMemory(t, seed, c, m)
	}
}
