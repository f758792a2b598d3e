package cpu_test

import (
	"math/rand"
	"slices"
	"testing"

	"cameo/bank"
	"cameo/cpu"
)

func newTape(rule func(addr uint32) byte) *tape {
	return &tape{bytes: map[uint32]byte{}, rule: rule}
}

// code lays words from an address on; all else is 0.
func code(addr uint32, words ...uint32) *tape {
	b := newTape(func(uint32) byte { return 0 })
	for i, w := range words {
		for k := range 4 {
			b.bytes[addr+uint32(4*i+k)] = byte(w >> (8 * k))
		}
	}
	return b
}

// same compares registers of all modes, and status words.
func same(t *testing.T, note any, a, b *bank.Bank) {
	t.Helper()
	if a.Status() != b.Status() {
		t.Fatalf("%v: status %08x, want %08x", note, a.Status(), b.Status())
	}
	for i := range 16 {
		if a.Get(i) != b.Get(i) || a.User(i) != b.User(i) {
			t.Fatalf("%v: register %d %08x, want %08x", note, i, a.Get(i), b.Get(i))
		}
	}
}

// everything compares all modes too; both go through them, and are in the same one behind it.
func everything(t *testing.T, note any, a, b *bank.Bank) {
	t.Helper()
	same(t, note, a, b)
	status := a.Status()
	for _, mode := range []uint32{16, 17, 18, 19, 23, 27} {
		a.SetStatus(mode)
		b.SetStatus(mode)
		same(t, note, a, b)
		if a.Saved() != b.Saved() {
			t.Fatalf("%v: saved %08x, want %08x", note, a.Saved(), b.Saved())
		}
	}
	a.SetStatus(status)
	b.SetStatus(status)
}

// patterns are words that are likely to be instructions: bits that are set, and bits that are free.
var patterns = [][2]uint32{
	{0xE0000090, 0x003FFF0F}, {0xE0800090, 0x007FFF0F}, {0xE1000090, 0x0040F00F | 0x000F0000},
	{0xE0000090, 0x01FFFF6F}, {0xE0400090, 0x01FFFF6F}, {0xE12FFF10, 0xF}, {0xE10F0000, 0x0040F000},
	{0xE120F000, 0x004F000F}, {0xE320F000, 0x004F0FFF}, {0xE0000000, 0x01FFFFEF}, {0xE0000010, 0x01FFFF6F}, {0xE2000000, 0x01FFFFFF},
	{0xE4000000, 0x01FFFFFF}, {0xE6000000, 0x01FFFFEF}, {0xE8000000, 0x01FFFFFF}, {0xEA000000, 0x01FFFFFF}, {0xEF000000, 0xFFFFFF},
	{0xE8100000, 0x01EFFFFF}, {0xE5100000, 0x00EFFFFF}, {0, 0xFFFFFFFF},
}

func randomWord(r *rand.Rand) uint32 {
	p := patterns[r.Intn(len(patterns))]
	w := p[0] | r.Uint32()&p[1]
	if r.Intn(5) == 0 {
		w = w<<4>>4 | r.Uint32()<<28
	}
	return w
}

func TestAgainstTheModel(t *testing.T) {
	for seed := range 6000 {
		r := rand.New(rand.NewSource(int64(seed)))
		words := make([]uint32, 64)
		for i := range words {
			if words[i] = randomWord(r); seed%2 == 1 {
				words[i] = r.Uint32()
			}
		}
		rule := func(addr uint32) byte { return byte(words[addr/4%64] >> (addr % 4 * 8)) }
		a, b := newTape(rule), newTape(rule)
		start := r.Uint32()
		c := cpu.New(a, start)
		m := &model{Bank: bank.New(), b: b}
		m.jump(start)
		for _, mode := range []uint32{16, 17, 18, 19, 23, 27, []uint32{16, 17, 18, 19, 23, 27, 31, 0, 7}[r.Intn(9)]} {
			status := r.Uint32()&0xF00000C0 | mode
			c.SetStatus(status)
			m.SetStatus(status)
			saved := r.Uint32()
			c.SetSaved(saved)
			m.SetSaved(saved)
			for i := range 15 {
				x := r.Uint32()
				if r.Intn(3) == 0 {
					x = uint32(r.Intn(300))
				}
				c.Set(i, x)
				m.Set(i, x)
			}
		}
		if r.Intn(2) == 0 {
			c.SetStatus(c.Status() | 0x20)
			m.SetStatus(m.Status() | 0x20)
			c.Jump(start)
			m.jump(start)
		}
		for n := range 12 {
			c.Step()
			m.step()
			if !slices.Equal(a.log, b.log) {
				t.Fatalf("%d, %d:\n%x\n%x", seed, n, a.log, b.log)
			}
			same(t, seed, c.Bank, m.Bank)
			if c.At() != m.Get(15)-2*m.width() {
				t.Fatal(seed)
			}
			if r.Intn(9) == 0 {
				took := c.Interrupt()
				if took != (m.Status()>>7&1 == 0) {
					t.Fatal(seed, took)
				}
				if took {
					m.Enter(18, m.Get(15)-2*m.width()+4)
					m.jump(0x18)
				}
			}
			a.log, b.log = a.log[:0], b.log[:0]
		}
		everything(t, seed, c.Bank, m.Bank)
	}
}

func TestTheExamples(t *testing.T) {
	b := code(0x8000000, 0xE3A00005, 0xE2800001)
	c := cpu.New(b, 0x8000003)
	if c.At() != 0x8000000 || c.Get(15) != 0x8000008 || c.Status() != 31 {
		t.Fatal()
	}
	c.Step()
	if c.Get(0) != 5 || c.At() != 0x8000004 {
		t.Fatal(c.Get(0))
	}
	c.Step()
	if c.Get(0) != 6 {
		t.Fatal(c.Get(0))
	}
	want := []access{{'F', 0x8000000, 4, 0, 0xE3A00005}, {'F', 0x8000004, 4, 1, 0xE2800001}, {'F', 0x8000008, 4, 1, 0}, {'F', 0x800000C, 4, 1, 0}}
	if !slices.Equal(b.log, want) {
		t.Fatalf("%x", b.log)
	}
	b = code(0, 0xE92D0003)
	c = cpu.New(b, 0)
	c.Set(13, 0x100)
	c.Set(0, 7)
	c.Set(1, 8)
	b.log = nil
	c.Step()
	c.Step()
	want = []access{{'F', 8, 4, 1, 0}, {'S', 0xF8, 4, 0, 7}, {'S', 0xFC, 4, 1, 8}, {'F', 12, 4, 0, 0}}
	if !slices.Equal(b.log, want) || c.Get(13) != 0xF8 {
		t.Fatalf("%x", b.log)
	}
}

// run makes a processor, sets registers, and executes one word of ARM code at 1000.
func run(t *testing.T, word uint32, regs map[int]uint32, status uint32, memory map[uint32]uint32) (*cpu.CPU, []access) {
	t.Helper()
	b := code(0x1000, word)
	for a, x := range memory {
		for k := range 4 {
			b.bytes[a+uint32(k)] = byte(x >> (8 * k))
		}
	}
	c := cpu.New(b, 0x1000)
	c.SetStatus(status)
	for i, x := range regs {
		c.Set(i, x)
	}
	b.log = nil
	c.Step()
	return c, b.log[1:]
}

func TestCounterAsOperand(t *testing.T) {
	for _, x := range []struct{ word, want uint32 }{
		{0xE1A0000F, 0x1008}, // MOV r0, r15
		{0xE08F0001, 0x1008}, // ADD r0, r15, r1
		{0xE1A0011F, 0x100C}, // MOV r0, r15, LSL r1
		{0xE08F0112, 0x100C}, // ADD r0, r15, r2, LSL r1
		{0xE28F0004, 0x100C}, // ADD r0, r15, #4
	} {
		c, _ := run(t, x.word, nil, 31, nil)
		if c.Get(0) != x.want {
			t.Fatalf("%08x: %x", x.word, c.Get(0))
		}
	}
	// Stored it counts one width more.
	_, log := run(t, 0xE581F000, map[int]uint32{1: 0x2000}, 31, nil)
	if log[0] != (access{'S', 0x2000, 4, 0, 0x100C}) {
		t.Fatalf("%x", log)
	}
	_, log = run(t, 0xE8818000, map[int]uint32{1: 0x2000}, 31, nil)
	if log[0] != (access{'S', 0x2000, 4, 0, 0x100C}) {
		t.Fatalf("%x", log)
	}
}

func TestLoadsAndTheirTurns(t *testing.T) {
	memory := map[uint32]uint32{0x2000: 0x84838281, 0x2004: 0x08070605}
	for _, x := range []struct{ word, at, want uint32 }{
		{0xE5910000, 0x2000, 0x84838281}, {0xE5910000, 0x2001, 0x81848382}, {0xE5910000, 0x2003, 0x83828184},
		{0xE5D10000, 0x2003, 0x84}, {0xE1D100B0, 0x2000, 0x8281}, {0xE1D100B0, 0x2001, 0x81000082}, {0xE1D100B0, 0x2003, 0x83000084},
		{0xE1D100D0, 0x2001, 0xFFFFFF82}, {0xE1D100D0, 0x2004, 5}, {0xE1D100F0, 0x2000, 0xFFFF8281}, {0xE1D100F0, 0x2001, 0xFFFFFF82}, {0xE1D100F0, 0x2006, 0x0807},
	} {
		c, log := run(t, x.word, map[int]uint32{1: x.at}, 31, memory)
		if c.Get(0) != x.want || len(log) != 2 || log[1].what != 'I' || log[1].width != 1 {
			t.Fatalf("%08x at %x: %08x %x", x.word, x.at, c.Get(0), log)
		}
	}
}

func TestBlocksOfAllKinds(t *testing.T) {
	for mode, x := range []struct {
		word       uint32
		first, end uint32
	}{{0xE8A1000C, 0x2000, 0x2008}, {0xE9A1000C, 0x2004, 0x2008}, {0xE821000C, 0x1FFC, 0x1FF8}, {0xE921000C, 0x1FF8, 0x1FF8}} {
		c, log := run(t, x.word, map[int]uint32{1: 0x2000, 2: 22, 3: 33}, 31, nil)
		want := []access{{'S', x.first, 4, 0, 22}, {'S', x.first + 4, 4, 1, 33}}
		if !slices.Equal(log, want) || c.Get(1) != x.end {
			t.Fatalf("%d %x %x", mode, log, c.Get(1))
		}
	}
	// Without registers: register 15, as if there were 16.
	c, log := run(t, 0xE8A10000, map[int]uint32{1: 0x2000}, 31, nil)
	if log[0] != (access{'S', 0x2000, 4, 0, 0x100C}) || c.Get(1) != 0x2040 || len(log) != 1 {
		t.Fatalf("%x", log)
	}
	c, log = run(t, 0xE8B10000, map[int]uint32{1: 0x2000}, 31, map[uint32]uint32{0x2000: 0x3001})
	if c.Get(1) != 0x2040 || c.At() != 0x3000 || log[1].what != 'I' {
		t.Fatalf("%x %x", c.At(), log)
	}
	// The base among the registers: its old value, if it is the first one.
	_, log = run(t, 0xE8A10006, map[int]uint32{1: 0x2000}, 31, nil)
	if log[0].x != 0x2000 {
		t.Fatalf("%x", log)
	}
	_, log = run(t, 0xE8A20006, map[int]uint32{1: 5, 2: 0x2000}, 31, nil)
	if log[1].x != 0x2008 {
		t.Fatalf("%x", log)
	}
	c, _ = run(t, 0xE8B10002, map[int]uint32{1: 0x2000}, 31, map[uint32]uint32{0x2000: 77})
	if c.Get(1) != 77 {
		t.Fatal("what is loaded counts")
	}
}

func TestExceptionsAndReturns(t *testing.T) {
	c, log := run(t, 0xE7F000F0, nil, 0x60000010, nil)
	if c.Status() != 0x6000009B || c.Saved() != 0x60000010 || c.Get(14) != 0x1004 || c.At() != 4 {
		t.Fatalf("%x %x %x", c.Status(), c.Get(14), log)
	}
	c.SetStatus(31)
	if !c.Interrupt() || c.Status() != 0x92 || c.Get(14) != 8 || c.At() != 0x18 || c.Saved() != 31 {
		t.Fatalf("%x %x", c.Status(), c.Get(14))
	}
	if c.Interrupt() {
		t.Fatal("barred")
	}
	// SUBS r15, r14, #4 back to Thumb code.
	b := code(0x1000, 0xE25EF004)
	c = cpu.New(b, 0x1000)
	c.SetStatus(0x92)
	c.SetSaved(0x30)
	c.Set(14, 0x2007)
	b.log = nil
	c.Step()
	if c.Status() != 0x30 || c.At() != 0x2002 || b.log[1] != (access{'F', 0x2002, 2, 0, 0}) || b.log[2] != (access{'F', 0x2004, 2, 1, 0}) {
		t.Fatalf("%x %x", c.Status(), b.log)
	}
	// In Thumb code the return address is the same.
	if c.SetStatus(0x3F); !c.Interrupt() || c.Get(14) != 0x2006 || c.Status() != 0x92 {
		t.Fatalf("%x", c.Get(14))
	}
}

func TestStatusWords(t *testing.T) {
	for _, x := range []struct{ word, status, r, want uint32 }{
		{0xE129F000, 0x1F, 0xFFFFFFFF, 0xFF0000DF}, // MSR, flags and low bits: never bit 5
		{0xE129F000, 0x10, 0xFFFFFFFF, 0xFF000010},
		{0xE128F000, 0x1F, 0xF00000D3, 0xF000001F},
		{0xE121F000, 0x8000001F, 0xD3, 0x800000D3},
		{0xE126F000, 0x1F, 0xFFFFFFFF, 0x1F},
		{0xE328F20F, 0x1F, 0, 0xF000001F},
		{0xE321F012, 0x1F, 0, 0x12},
	} {
		if c, _ := run(t, x.word, map[int]uint32{0: x.r}, x.status, nil); c.Status() != x.want {
			t.Fatalf("%08x %08x", x.word, c.Status())
		}
	}
	c, _ := run(t, 0xE169F000, map[int]uint32{0: 0xFFFFFFFF}, 0x12, nil)
	if c.Saved() != 0xFF0000FF || c.Status() != 0x12 {
		t.Fatalf("%x", c.Saved())
	}
	c, _ = run(t, 0xE14F0000, nil, 0x12, nil)
	if c.Get(0) != 0 {
		t.Fatal()
	}
	c, _ = run(t, 0xE10F0000, nil, 0x12, nil)
	if c.Get(0) != 0x12 {
		t.Fatal()
	}
}

func TestAConditionThatFails(t *testing.T) {
	for _, word := range []uint32{0x03A00005, 0x05910000, 0x0A000010, 0xF3A00005, 0x0F000002, 0x07F000F0} {
		c, log := run(t, word, nil, 31, nil)
		if c.Get(0) != 0 || len(log) != 0 || c.At() != 0x1004 {
			t.Fatalf("%08x %x", word, log)
		}
	}
}

func TestServiceAndIdle(t *testing.T) {
	_, log := run(t, 0xEF0B1234, nil, 31, nil)
	if !slices.Equal(log, []access{{'W', 0, 0x0B, 0, 0}}) {
		t.Fatalf("%x", log)
	}
	for _, x := range []struct {
		word uint32
		n    int
	}{{0xE0000291, 1}, {0xE0200291, 2}, {0xE0810392, 5}, {0xE0A10392, 6}, {0xE0C10392, 2}} {
		_, log := run(t, x.word, map[int]uint32{2: 0x12, 3: 0xFFFFFF12}, 31, nil)
		if log[0].what != 'I' || log[0].width != x.n {
			t.Fatalf("%08x %v", x.word, log)
		}
	}
}

func TestFetchClassBehindAnAccess(t *testing.T) {
	b := code(0x1000, 0xE5810000, 0xE1A00000, 0xE59F0000)
	c := cpu.New(b, 0x1000)
	c.Set(1, 0x2000)
	b.log = nil
	for range 4 {
		c.Step()
	}
	var classes []int
	for _, a := range b.log {
		if a.what == 'F' {
			classes = append(classes, a.class)
		}
	}
	if !slices.Equal(classes, []int{1, 0, 1, 0}) {
		t.Fatal(classes)
	}
	// A jump behind the access begins anew.
	_, log := run(t, 0xE591F000, map[int]uint32{1: 0x2000}, 31, map[uint32]uint32{0x2000: 0x3003})
	if log[2].addr != 0x3000 || log[2].class != 0 || log[3].class != 1 {
		t.Fatalf("%v", log)
	}
}

func TestThumbBranchAndLink(t *testing.T) {
	b := code(0x1000, 0xF812F400) // OpLink with both halves
	c := cpu.New(b, 0x1000)
	c.SetStatus(0x3F)
	c.Jump(0x1000)
	c.Step()
	c.Step()
	// 1004 - 400000 in register 14, then plus 24.
	if c.Get(14) != 0x1005 || c.At() != 0xFFC01028 {
		t.Fatalf("%x %x", c.Get(14), c.At())
	}
}

func TestNoProcessor(t *testing.T) {
	if cpu.New(nil, 0) != nil {
		t.Fatal()
	}
	var c *cpu.CPU
	c.Jump(0)
	c.Step()
	if c.At() != 0 || c.Interrupt() {
		t.Fatal()
	}
	empty := &cpu.CPU{}
	empty.Jump(0)
	empty.Step()
	if empty.At() != 0 || empty.Interrupt() || empty.Get(1) != 0 {
		t.Fatal()
	}
}

var _ cpu.Bus = (*tape)(nil)

// quick is a bus that costs nothing.
type quick struct{}

func (quick) Fetch(addr uint32, width, class int) uint32    { return 0xE5910000 - addr>>2&1*0x04110000 }
func (quick) Load(addr uint32, width, class int) uint32     { return addr }
func (quick) Store(addr uint32, width, class int, x uint32) {}
func (quick) Idle(n int)                                    {}
func (quick) Soft(n int)                                    {}

func BenchmarkStep(b *testing.B) {
	c := cpu.New(quick{}, 0)
	for range b.N {
		c.Step()
	}
}
