package console_test

import (
	"math"
	"math/rand"
	"slices"
	"strings"
	"testing"

	"cameo/api"
	"cameo/bg"
	"cameo/console"
	"cameo/disk"
	"cameo/journal"
	"cameo/mix"
	"cameo/save"
	"cameo/sound"
)

func words(all ...uint32) string {
	var b []byte
	for _, w := range all {
		b = append(b, byte(w), byte(w>>8), byte(w>>16), byte(w>>24))
	}
	return string(b)
}

const forever = 0xEAFFFFFE

func machine(t *testing.T, rom string, chip *save.Backup) *console.Console {
	t.Helper()
	c, e := console.New(rom, chip)
	if e != api.OK {
		t.Fatal(e)
	}
	return c
}

func run(t *testing.T, c *console.Console, n int) {
	t.Helper()
	if e := c.Run(n); e != api.OK {
		t.Fatal(e)
	}
}

func TestTheExample(t *testing.T) {
	c := machine(t, words(0xE3A00005, forever), nil)
	if c.Now() != 14 || c.Register(13) != 0x3007F00 {
		t.Fatal(c.Now())
	}
	if run(t, c, 30); c.Register(0) != 5 || c.Now() != 60 || c.Register(16) != 5 {
		t.Fatal(c.Register(0), c.Now())
	}
	want := []api.Access{
		{At: 0, Addr: 0x8000000, Width: 4, Data: 0xE3A00005},
		{At: 8, Addr: 0x8000004, Width: 4, Data: forever, Class: api.ClassS},
		{At: 14, Addr: 0x8000008, Width: 4, Data: 0x00050004, Class: api.ClassS},
	}
	for i, a := range c.Trace()[:3] {
		if a != want[i] {
			t.Fatal(a)
		}
	}
	if len(c.Trace()) != 0 {
		t.Fatal("taken twice")
	}
	run(t, c, 0)
	if c.Now() != 60 {
		t.Fatal()
	}
}

func TestErrors(t *testing.T) {
	for _, n := range []int{0, api.MaxRom + 1} {
		if c, e := console.New(strings.Repeat("x", n), nil); c != nil || e != api.ErrRom {
			t.Fatal(n, e)
		}
	}
	c := machine(t, strings.Repeat("\x00", api.MaxRom), nil)
	for _, n := range []int{-1, math.MinInt, api.MaxRun + 1, math.MaxInt} {
		if e := c.Run(n); e != api.ErrArg || c.Now() != 14 {
			t.Fatal(n, e)
		}
	}
	if len(c.Trace()) != 2 {
		t.Fatal()
	}
}

func TestNoMachine(t *testing.T) {
	for _, c := range []*console.Console{nil, {}} {
		c.Keys(1)
		c.Store(0, 4, 0, 0)
		c.Write(0, 4, 0)
		c.Idle(5)
		c.Soft(6)
		if c.Run(1) != api.ErrArg || c.Now() != 0 || c.Register(0) != 0 || c.Trace() != nil || c.Frames() != nil || c.Samples() != nil || c.Backup() != nil || c.Fetch(0, 4, 0) != 0 || c.Load(0, 4, 0) != 0 || c.Read(0, 4) != 0 {
			t.Fatal()
		}
	}
}

func TestOddArguments(t *testing.T) {
	c := machine(t, "x", nil)
	for _, width := range []int{0, -1, 3, 8, math.MinInt, math.MaxInt} {
		for _, addr := range []uint32{0, 0x3FFF, 0x2FFFFFF, 0x40003FF, 0x6017FFF, 0xDFFFFFF, 0xFFFFFFFF} {
			c.Fetch(addr, width, -7)
			c.Load(addr, width, 99)
			c.Store(addr, width, math.MinInt, 0xFFFFFFFF)
			c.Read(addr, width)
			c.Write(addr, width, 0)
		}
	}
	for _, n := range []int{0, -1, math.MinInt} {
		before := c.Now()
		c.Idle(n)
		trace := c.Trace()
		if a := trace[len(trace)-1]; c.Now() != before || a.Width != n || a.Class != api.ClassI {
			t.Fatal(n, a)
		}
	}
	c.Soft(-5)
	c.Soft(math.MaxInt)
}

// behind gives the accesses from a cycle on.
func behind(c *console.Console, now int) []api.Access {
	var out []api.Access
	for _, a := range c.Trace() {
		if a.At >= now {
			out = append(out, a)
		}
	}
	return out
}

func expect(t *testing.T, got, want []api.Access) {
	t.Helper()
	for i, w := range want {
		if i >= len(got) || got[i] != w {
			t.Fatalf("%d:\n%v\n%v", i, got, want)
		}
	}
}

// Two words by channel 3 from the cartridge to the work memory; then channel 0 comes between the units of channel 3.
func TestAChannelStepByStep(t *testing.T) {
	c := machine(t, words(forever), nil)
	c.Write(0x40000D4, 4, 0x8000100)
	c.Write(0x40000D8, 4, 0x2000000)
	c.Write(0x40000DC, 4, 2|0xC400<<16)
	c.Write(0x4000200, 2, 0x800)
	run(t, c, 1)
	run(t, c, 1)
	expect(t, behind(c, 14), []api.Access{
		{At: 14, Owner: api.ByIdle, Width: 2, Class: api.ClassI},
		{At: 16, Owner: 4, Addr: 0x8000100, Width: 4, Data: 0x00810080},
		{At: 24, Owner: 4, Addr: 0x2000000, Width: 4, Write: true, Data: 0x00810080},
		{At: 30, Owner: 4, Addr: 0x8000104, Width: 4, Data: 0x00830082, Class: api.ClassS},
		{At: 36, Owner: 4, Addr: 0x2000004, Width: 4, Write: true, Data: 0x00830082, Class: api.ClassS},
	})
	if c.Now() != 42 || c.Read(0x4000202, 2) != 0x800 || c.Read(0x40000DE, 2) != 0x4400 {
		t.Fatal(c.Now())
	}
	// Halfwords; another channel gets an Idle of its own, and so does the one that goes on behind it.
	c = machine(t, words(forever), nil)
	for _, x := range [][3]uint32{{0x40000D4, 0x2000000, 3}, {0x40000B0, 0x2000000, 1}} {
		c.Write(x[0], 4, x[1])
		c.Write(x[0]+4, 4, 0x3000000)
		c.Write(x[0]+8, 4, x[2]|0x8000<<16)
		run(t, c, 1)
	}
	run(t, c, 11)
	expect(t, behind(c, 14), []api.Access{
		{At: 14, Owner: 5, Width: 2, Class: api.ClassI},
		{At: 16, Owner: 4, Addr: 0x2000000, Width: 2},
		{At: 19, Owner: 4, Addr: 0x3000000, Width: 2, Write: true},
		{At: 20, Owner: 5, Width: 2, Class: api.ClassI},
		{At: 22, Owner: 1, Addr: 0x2000000, Width: 2},
		{At: 25, Owner: 1, Addr: 0x3000000, Width: 2, Write: true},
		{At: 26, Owner: 5, Width: 2, Class: api.ClassI},
		{At: 28, Owner: 4, Addr: 0x2000002, Width: 2, Class: 1},
		{At: 31, Owner: 4, Addr: 0x3000002, Width: 2, Write: true, Class: 1},
		{At: 32, Owner: 4, Addr: 0x2000004, Width: 2, Class: 1},
	})
}

// Behind the first fetch, which is new to the buffer, a load and an Idle give it two cycles for what comes next.
// Channel 0 begins at the blank of line 0, within the Idle that channel 3 has.
func TestAChannelWithinAnIdle(t *testing.T) {
	for _, x := range []struct {
		units uint32
		want  []api.Access
	}{
		{1, []api.Access{
			{At: 959, Owner: 5, Width: 2, Class: api.ClassI},
			{At: 961, Owner: 1, Addr: 0x3000000, Width: 2}, {At: 962, Owner: 1, Addr: 0x3000000, Width: 2, Write: true},
			{At: 963, Owner: 5, Width: 2, Class: api.ClassI},
			{At: 965, Owner: 4, Addr: 0x3000000, Width: 2}, {At: 966, Owner: 4, Addr: 0x3000000, Width: 2, Write: true},
			{At: 967, Owner: 4, Addr: 0x3000002, Width: 2, Class: 1},
		}},
		{2, []api.Access{
			{At: 959, Owner: 5, Width: 2, Class: api.ClassI},
			{At: 961, Owner: 1, Addr: 0x3000000, Width: 2}, {At: 962, Owner: 1, Addr: 0x3000000, Width: 2, Write: true},
			{At: 963, Owner: 5, Width: 2, Class: api.ClassI},
			{At: 965, Owner: 1, Addr: 0x3000002, Width: 2, Class: 1}, {At: 966, Owner: 1, Addr: 0x3000002, Width: 2, Write: true, Class: 1},
			{At: 967, Owner: 5, Width: 2, Class: api.ClassI},
			{At: 969, Owner: 4, Addr: 0x3000000, Width: 2},
		}},
	} {
		c := machine(t, words(forever), nil)
		c.Idle(959 - c.Now())
		for i, control := range map[uint32]uint32{0: 0xA000<<16 | x.units, 3: 0x8000<<16 | 2} {
			c.Write(0x40000B0+12*i, 4, 0x3000000)
			c.Write(0x40000B4+12*i, 4, 0x3000000)
			c.Write(0x40000B8+12*i, 4, control)
		}
		run(t, c, 20)
		expect(t, behind(c, 959), x.want)
	}
}

func TestTheByteThatIsSaved(t *testing.T) {
	for _, x := range []struct {
		addr  uint32
		width int
		want  byte
	}{{0xE000000, 1, 0x11}, {0xE000003, 1, 0x11}, {0xE000000, 2, 0x11}, {0xE000001, 2, 0x22}, {0xE000000, 4, 0x11}, {0xE000001, 4, 0x22}, {0xF000002, 4, 0x33}, {0xE008003, 4, 0x44}} {
		chip, _ := save.New(api.ChipSram, "")
		c := machine(t, "x", chip)
		c.Write(x.addr, x.width, 0x44332211)
		if n, _ := chip.Count(); n != 1 || chip.Read(x.addr) != x.want || c.Read(x.addr, 4) != uint32(x.want)*0x01010101 {
			t.Fatalf("%v %x", x, chip.Read(x.addr))
		}
	}
}

// The sound's registers, against the layers below.
func TestSoundFromItsRegisters(t *testing.T) {
	numbers := map[uint32]int{0x60: 0, 0x62: 1, 0x64: 2, 0x68: 3, 0x6C: 4, 0x74: 9, 0x78: 7, 0x7C: 8}
	masks := map[uint32]uint32{0x60: 0x7F, 0x62: 0xFFC0, 0x68: 0xFFC0, 0x78: 0xFFC0, 0x64: 0x4000, 0x6C: 0x4000, 0x74: 0x4000, 0x70: 0xE0, 0x72: 0xE000, 0x7C: 0x40FF}
	heard := 0
	for seed := range 12 {
		r := rand.New(rand.NewSource(int64(seed)))
		c, u := machine(t, words(forever), nil), sound.New()
		low, high := uint16(0), uint16(0)
		for range 40 {
			at := []uint32{0x60, 0x62, 0x64, 0x66, 0x68, 0x6A, 0x6C, 0x6E, 0x70, 0x72, 0x74, 0x76, 0x78, 0x7A, 0x7C, 0x7E, 0x80, 0x82, 0x84, 0x88, 0x90, 0x94, 0x9E, 0x8A}[r.Intn(24)]
			x := uint16(r.Uint32())
			switch at {
			case 0x60:
				x = x&^0x70 | 0x10
			case 0x62, 0x68, 0x78:
				x |= 0x8000
			case 0x64, 0x6C, 0x74, 0x7C:
				x = x&^0x40E0 | 0x8000
			case 0x70:
				x |= 0x80
			case 0x80:
				x |= 0xFF77
			case 0x84:
				x |= 0x80
			}
			now := c.Now()
			u.Run(now)
			c.Write(0x4000000+at, 2, uint32(x))
			if n, ok := numbers[at]; ok {
				u.Psg().Write(now, n, x)
			}
			switch at {
			case 0x70, 0x72:
				if at == 0x70 {
					low = x & 0xFF
				} else {
					high = x << 8
				}
				u.Psg().Write(now, 5, low|high)
				if at == 0x72 {
					u.Psg().Write(now, 6, x)
				}
			case 0x80, 0x82, 0x84:
				u.Write(now, int(at-0x80)/2, x)
			case 0x88:
				u.Write(now, 3, x)
			case 0x90, 0x94, 0x9E:
				u.Psg().Bank(now, int(at-0x90), byte(x))
				u.Psg().Bank(now, int(at-0x8F), byte(x>>8))
			}
			if at < 0x80 && c.Read(0x4000000+at, 2) != uint32(x)&masks[at] {
				t.Fatalf("%x: %x of %x", at, c.Read(0x4000000+at, 2), x)
			}
			run(t, c, r.Intn(200000))
			got, want := c.Samples(), u.Take(c.Now())
			if !slices.Equal(got, want) {
				t.Fatal(seed, len(got), len(want))
			}
			for _, s := range got {
				if s != (api.Sample{}) {
					heard++
				}
			}
		}
	}
	if heard < 10000 {
		t.Fatal("hardly anything is heard", heard)
	}
}

func TestPrefetch(t *testing.T) {
	c := machine(t, words(0xE3A01403, 0xE5912000, 0xE1A00000, 0xE1A00000, forever), nil)
	c.Write(0x4000204, 2, 0x4000)
	run(t, c, 26)
	want := []int{0, 8, 14, 22, 28, 29, 30, 34}
	trace := c.Trace()
	for i, a := range trace {
		if a.At != want[i] {
			t.Fatal(trace)
		}
	}
	if c.Now() != 40 || len(trace) != len(want) || trace[6].Class != api.ClassN || trace[6].Addr != 0x8000010 {
		t.Fatal(c.Now(), trace)
	}
}

func TestPicturesAndBlanks(t *testing.T) {
	c := machine(t, words(forever), nil)
	c.Write(0x5000000, 2, 0x1234)
	c.Write(0x4000004, 2, 0x08)
	c.Write(0x4000200, 2, 1)
	run(t, c, 159*1232-30)
	if len(c.Frames()) != 0 || c.Read(0x4000202, 2) != 0 || c.Read(0x4000006, 2) != 158 {
		t.Fatal(c.Now())
	}
	run(t, c, 1300)
	frames := c.Frames()
	if len(frames) != 1 || len(frames[0]) != 240*160 || c.Read(0x4000202, 2) != 1 || c.Read(0x4000004, 2) != 9 {
		t.Fatal(len(frames), c.Read(0x4000202, 2), c.Read(0x4000004, 2))
	}
	// Line 0 was drawn when the machine was made.
	if frames[0][0] != 0 || frames[0][239] != 0 || frames[0][240] != 0x1234 || frames[0][240*160-1] != 0x1234 {
		t.Fatal(frames[0][0], frames[0][240])
	}
	run(t, c, 3*api.FrameCycles)
	if frames = c.Frames(); len(frames) != 3 || frames[0][0] != 0x1234 || len(c.Frames()) != 0 {
		t.Fatal(len(frames))
	}
	if s := c.Samples(); len(s) != c.Now()/512 || len(c.Samples()) != 0 {
		t.Fatal(len(s))
	}
}

func TestTheOrigins(t *testing.T) {
	c := machine(t, words(forever), nil)
	c.Write(0x4000000, 2, 0x0403)
	for y := range uint32(160) {
		for x := range uint32(240) {
			c.Write(0x6000000+2*(240*y+x), 2, 240*y+x)
		}
	}
	run(t, c, 161*1232)
	c.Frames()
	c.Write(0x4000028, 4, 0xF0000300)
	c.Write(0x400002C, 4, 0x00000200)
	run(t, c, api.FrameCycles)
	f := c.Frames()[0]
	if f[0] != 2*240+3 || f[240] != 3*240+3 || f[236] != 2*240+239 || f[237] != 0 {
		t.Fatal(f[:4])
	}
	run(t, c, 100*1232)
	c.Write(0x400002C, 4, 0x0FFFFF00) // at once, and as a signed number
	run(t, c, api.FrameCycles)
	f = c.Frames()[0]
	if f[0] != 2*240+3 || f[10*240] != 12*240+3 {
		t.Fatal(f[0])
	}
	found := false
	for y := range 159 {
		found = found || f[y*240] == 0 && f[(y+1)*240] == 3
	}
	if !found {
		t.Fatal("the new origin isn't seen")
	}
}

func TestTheStacks(t *testing.T) {
	// MSR to Supervisor, MOV r0, r13; to Interrupt, MOV r1, r13; to System, MOV r2, r13
	c := machine(t, words(0xE321F0D3, 0xE1A0000D, 0xE321F0D2, 0xE1A0100D, 0xE321F01F, 0xE1A0200D, forever), nil)
	run(t, c, 60)
	if c.Register(0) != 0x3007FE0 || c.Register(1) != 0x3007FA0 || c.Register(2) != 0x3007F00 {
		t.Fatalf("%x %x %x", c.Register(0), c.Register(1), c.Register(2))
	}
}

// picture draws a picture by the layers below, from the registers as they were written.
func picture(mem map[uint32][]byte, reg map[uint32]uint16) []uint16 {
	s := &bg.Scene{Control: reg[0], Mosaic: reg[0x4C], Vram: mem[0x6000000], Pal: mem[0x5000000], Oam: mem[0x7000000]}
	for i := range uint32(4) {
		s.Bg[i], s.X[i], s.Y[i] = reg[8+2*i], reg[0x10+4*i], reg[0x12+4*i]
		for k := range uint32(2) {
			s.Par[k][i] = int16(reg[0x20+16*k+2*i])
		}
	}
	for k := range uint32(2) {
		for v := range uint32(2) {
			low := 0x28 + 16*k + 4*v
			s.Ref[k][v] = int32((uint32(reg[low])|uint32(reg[low+2])<<16)<<4) >> 4
		}
	}
	r := &mix.Regs{WinH: [2]uint16{reg[0x40], reg[0x42]}, WinV: [2]uint16{reg[0x44], reg[0x46]}, In: reg[0x48], Out: reg[0x4A], Blend: reg[0x50], Alpha: reg[0x52], Bright: reg[0x54]}
	var all []uint16
	for line := range 160 {
		l := mix.Line(s, r, line)
		all = append(all, l[:]...)
		for k := range 2 {
			s.Ref[k][0] += int32(s.Par[k][1])
			s.Ref[k][1] += int32(s.Par[k][3])
		}
	}
	return all
}

func TestPicturesFromTheirRegisters(t *testing.T) {
	seen := 0
	for seed := range 60 {
		r := rand.New(rand.NewSource(int64(seed)))
		c := machine(t, words(forever), nil)
		mem := map[uint32][]byte{0x5000000: make([]byte, 0x400), 0x6000000: make([]byte, 0x18000), 0x7000000: make([]byte, 0x400)}
		for base, m := range mem {
			for i := range m {
				if base != 0x6000000 || i%3 > 0 {
					m[i] = byte(r.Uint32())
				}
			}
			for i := 0; i < len(m); i += 2 {
				c.Write(base+uint32(i), 2, uint32(m[i])|uint32(m[i+1])<<8)
			}
		}
		reg := map[uint32]uint16{}
		for at := uint32(0); at < 0x56; at += 2 {
			if at == 4 || at == 6 {
				continue
			}
			x := uint16(r.Uint32())
			switch {
			case at == 0:
				x = x&^0x87 | 0x1F00 | uint16(seed%6)
			case at >= 0x20 && at < 0x40 && at%16 < 8:
				x = uint16(r.Intn(800) - 400)
			case at >= 0x20 && at < 0x40 && at%4 == 2:
				x = x & 0xF000 // hardly far away
			case at >= 8 && at < 16:
				x &^= 0x1C
			}
			reg[at] = x
			c.Write(0x4000000+at, 2, uint32(x))
		}
		run(t, c, 2*api.FrameCycles)
		frames := c.Frames()
		want := picture(mem, reg)
		if !slices.Equal(frames[1], want) {
			t.Fatal(seed)
		}
		colours := map[uint16]bool{}
		for _, x := range want {
			colours[x] = true
		}
		if len(colours) > 50 {
			seen++
		}
	}
	if seen < 30 {
		t.Fatal("hardly anything is seen", seen)
	}
}

func TestSleepAndWake(t *testing.T) {
	// r0 = 4000000; store a byte at 301; then count in r1.
	c := machine(t, words(0xE3A00301, 0xE3A02C03, 0xE2822001, 0xE7C02002, 0xE2811001, 0xEAFFFFFD), nil)
	c.Write(0x4000004, 2, 0x10)
	run(t, c, 3000)
	if c.Register(1) != 0 || c.Now() != 3014 {
		t.Fatal(c.Register(1), c.Now())
	}
	var ends []int
	for _, a := range c.Trace() {
		if a.Owner == api.ByIdle {
			ends = append(ends, a.At+a.Width)
		}
	}
	if len(ends) != 5 || ends[0] != 960 || ends[1] != 1232 || ends[2] != 2192 || ends[3] != 2464 || ends[4] != 3014 {
		t.Fatal(ends)
	}
	c.Write(0x4000200, 2, 2) // requested long ago: it wakes, and isn't interrupted without the master switch
	run(t, c, 100)
	if c.Register(1) == 0 || c.Read(0x4000300, 2) != 0 {
		t.Fatal()
	}
}

func TestInterruptsGoThroughTheBuiltInCode(t *testing.T) {
	// 8000004: the handler counts in register 8, clears what is requested, and returns.
	code := []uint32{0xEA000005, 0xE2888001, 0xE3A01C02, 0xE2811002, 0xE3A02001, 0xE18120B0, 0xE12FFF1E, forever}
	c := machine(t, words(code...), nil)
	c.Write(0x3007FFC, 4, 0x8000004)
	c.Write(0x4000004, 2, 0x08)
	c.Write(0x4000200, 2, 1)
	c.Write(0x4000208, 2, 1)
	run(t, c, 3*api.FrameCycles)
	if c.Register(8) != 3 || c.Register(13) != 0x3007F00 || c.Read(0x4000202, 2) != 0 {
		t.Fatal(c.Register(8))
	}
}

func TestAServiceThatWaits(t *testing.T) {
	// The handler notes interrupt 0 at 3007FF8; the program waits for it again and again, counting in register 9.
	code := []uint32{0xEA000005, 0xE3A01C02, 0xE2811002, 0xE3A02001, 0xE18120B0, 0xE14020B8, 0xE12FFF1E, 0xEF050000, 0xE2899001, 0xEAFFFFFC}
	c := machine(t, words(code...), nil)
	c.Write(0x3007FFC, 4, 0x8000004)
	c.Write(0x4000004, 2, 0x18)
	c.Write(0x4000200, 2, 1)
	run(t, c, 3*api.FrameCycles)
	if c.Register(9) != 3 || c.Read(0x4000208, 2) != 1 || c.Read(0x3007FF8, 2) != 0 {
		t.Fatal(c.Register(9), c.Read(0x3007FF8, 2))
	}
}

func TestServices(t *testing.T) {
	soft := func(n uint32, r0, r1 uint32) *console.Console {
		t.Helper()
		c := machine(t, words(0xE59F0008, 0xE59F1008, 0xEF000000|n<<16, forever, r0, r1), nil)
		run(t, c, 150)
		return c
	}
	for _, x := range []struct {
		n, r0, r1  uint32
		w0, w1, w3 uint32
		cycles     int
	}{
		{6, uint32(0xFFFFFFF9), 2, 0xFFFFFFFD, 0xFFFFFFFF, 3, 50},
		{7, 2, uint32(0xFFFFFFF9), 0xFFFFFFFD, 0xFFFFFFFF, 3, 50},
		{8, 99, 5, 9, 5, 0, 60},
		{9, 0x12340000, 5, 0, 5, 0, 40},
		{10, 0xABCD0001, 0x12340001, 0x2000, 0x12340001, 0, 70},
		{99, 1, 2, 1, 2, 0, 10},
		{0, 1, 2, 1, 2, 0, 10},
	} {
		c := soft(x.n, x.r0, x.r1)
		if c.Register(0) != x.w0 || c.Register(1) != x.w1 || c.Register(3) != x.w3 {
			t.Fatalf("%d: %x %x %x", x.n, c.Register(0), c.Register(1), c.Register(3))
		}
		found := false
		for _, a := range c.Trace() {
			found = found || a.Class == api.ClassI && a.Width == x.cycles && a.Owner == api.ByCPU
		}
		if !found {
			t.Fatal(x.n, "no Idle of", x.cycles)
		}
	}
}

func TestOpenBusAndBehindTheCartridge(t *testing.T) {
	c := machine(t, words(0xE3A00005, forever)+"\xAB", nil)
	// The open bus word is what was fetched last: 8000004.
	for _, x := range []struct {
		addr  uint32
		width int
		want  uint32
	}{
		{0x1000000, 4, forever}, {0x10000002, 2, forever >> 16}, {0x4000, 1, 0xFE}, {0x4001, 1, 0xFF}, {0x4003, 1, 0xEA}, {0x4000400, 4, forever},
		{0x8000008, 1, 0xAB}, {0x8000008, 2, 0xAB}, {0x8000009, 1, 0}, {0x800000A, 2, 5}, {0x800000C, 4, 0x00070006}, {0x8020000, 4, 0x00010000}, {0x9FFFFFE, 2, 0xFFFF}, {0x9FFFFFF, 1, 0xFF},
		{0xA000000, 4, 0xE3A00005}, {0xC000004, 4, forever},
		{0, 4, 0xE1B0F00E}, {0x18, 4, 0xEA000000}, {0x34, 4, 0xE25EF004}, {0x38, 4, 0}, {0x3FFC, 4, 0}, {0x20, 1, 0x0F}, {0x22, 2, 0xE92D},
		{0xE000000, 1, 0xFF}, {0xE000000, 2, 0xFFFF}, {0xF000000, 4, 0xFFFFFFFF}, {0xD000000, 2, 0},
	} {
		if got := c.Read(x.addr, x.width); got != x.want {
			t.Fatalf("%x, %d: %x, want %x", x.addr, x.width, got, x.want)
		}
	}
}

func TestBytesOfThePicturesMemories(t *testing.T) {
	for _, x := range []struct {
		control, addr uint32
		want          uint32
	}{
		{0, 0x5000001, 0xABAB}, {0, 0x6000000, 0xABAB}, {0, 0x600FFFF, 0xABAB}, {0, 0x6010000, 0}, {2, 0x6013FFF, 0}, {3, 0x6010000, 0xABAB}, {3, 0x6013FFF, 0xABAB}, {5, 0x6014000, 0},
		{0, 0x7000000, 0}, {0, 0x2000000, 0xAB}, {0, 0x3000001, 0xAB00}, {3, 0x6018000, 0xABAB}, {0, 0x6020001, 0xABAB},
	} {
		c := machine(t, "x", nil)
		c.Write(0x4000000, 2, x.control)
		c.Write(x.addr, 1, 0x12AB)
		if got := c.Read(x.addr&^1, 2); got != x.want {
			t.Fatalf("%v %x", x, got)
		}
	}
}

func TestSingleBytesOfRegisters(t *testing.T) {
	c := machine(t, "x", nil)
	c.Write(0x4000049, 1, 0x3F)
	c.Write(0x4000048, 1, 0x15)
	if c.Read(0x4000048, 2) != 0x3F15 || c.Read(0x4000048, 1) != 0x15 || c.Read(0x4000049, 1) != 0x3F || c.Read(0x4000048, 4) != 0x3F15 {
		t.Fatal()
	}
	// 202 and 203: only the bits of that byte are cleared.
	c.Write(0x4000004, 2, 0x38)
	run(t, c, api.FrameCycles)
	if c.Read(0x4000202, 2) != 7 {
		t.Fatal(c.Read(0x4000202, 2))
	}
	c.Write(0x4000203, 1, 0xFF)
	c.Write(0x4000202, 1, 2)
	if c.Read(0x4000202, 2) != 5 {
		t.Fatal(c.Read(0x4000202, 2))
	}
	// A0 to A7 take no bytes, 90 to 9F take them for the wave.
	c.Write(0x4000090, 4, 0x44332211)
	c.Write(0x4000093, 1, 0x99)
	if c.Read(0x4000090, 4) != 0x99332211 {
		t.Fatalf("%x", c.Read(0x4000090, 4))
	}
}

// independent runs a cartridge that saves, with a disk that fails at some point or none.
func independent(t *testing.T, fuel int) (*console.Console, *disk.Disk) {
	t.Helper()
	// r0 = E000000; r1 counts; store r1 at r0 + r1; for ever.
	rom := words(0xE3A0040E, 0xE2811001, 0xE7C01001, 0xE5D02001, 0xEAFFFFFB)
	chip, _ := save.New(api.ChipSram, "")
	n, _ := journal.Sectors(32768, 5)
	d, _ := disk.New(n)
	if fuel >= 0 {
		if e := chip.Attach(d, 5); e != api.OK {
			t.Fatal(e)
		}
		d.Fuel(fuel)
	}
	c := machine(t, rom, chip)
	run(t, c, 20000)
	return c, d
}

func TestIndependence(t *testing.T) {
	plain, _ := independent(t, -1)
	want := plain.Trace()
	for _, fuel := range []int{0, 1, 7, 500, 1000, 100000} {
		c, d := independent(t, fuel)
		got := c.Trace()
		if len(got) != len(want) || c.Now() != plain.Now() || c.Backup().Image() != plain.Backup().Image() {
			t.Fatal(fuel)
		}
		for i := range got {
			if got[i] != want[i] {
				t.Fatal(fuel, i)
			}
		}
		if (c.Backup().Error() == api.OK) != (fuel == 100000) {
			t.Fatal(fuel, c.Backup().Error())
		}
		_, durable := c.Backup().Count()
		r, e := save.Recover(d.Crash(nil), api.ChipSram, 5)
		if e != api.OK {
			t.Fatal(e)
		}
		k := 0 // how many bytes the recovered memory has
		for k < 300 && r.Read(uint32(k+1)) == byte(k+1) && c.Backup().Read(uint32(k+1)) != 0xFF {
			k++
		}
		if k < min(durable, 254) {
			t.Fatal(fuel, k, durable)
		}
	}
}

// However long a service takes: Run ends not far behind its end.
func TestRunEnds(t *testing.T) {
	for _, x := range []struct{ n, r0, r2 uint32 }{{11, 0x2000000, 0xFFFF}, {12, 0x2000000, 0xFFFF}, {14, 0x2000000, 0xFFFF}, {15, 0x2000000, 0xFFFF}, {0x14, 0x8000100, 0}, {0x16, 0x8000100, 0}, {0x13, 0x8000100, 0}} {
		rom := words(0xE59F0010, 0xE59F1010, 0xE59F2010, 0xE3A03002, 0xEF000000|x.n<<16, 0xEAFFFFF9, x.r0, 0x2000000, x.r2)
		rom += strings.Repeat("\x00", 0x100-len(rom)) + map[uint32]string{0x14: "\x30\xFF\xFF\x00", 0x16: "\x81\xFF\xFF\x00", 0x13: "\x28\xFF\xFF\x00"}[x.n]
		c := machine(t, rom, nil)
		for range 40 {
			before := c.Now()
			run(t, c, 1)
			if d := c.Now() - before; d < 1 || d > 500001 {
				t.Fatal(x.n, d)
			}
		}
	}
	// A channel that writes its own registers again and again, interrupts that can't be taken, a service that waits for nothing.
	c := machine(t, words(0xE3A00001, 0xE3A01001, 0xEF040000, forever), nil)
	c.Write(0x4000004, 2, 0x18)
	c.Write(0x4000200, 2, 3)
	c.Write(0x40000B0, 4, 0x40000B0)
	c.Write(0x40000B4, 4, 0x40000B0)
	c.Write(0x40000B8, 4, 0x96000003)
	for range 50 {
		before := c.Now()
		run(t, c, 100000)
		if d := c.Now() - before; d < 100000 || d > 600000 {
			t.Fatal(d)
		}
	}
}

func BenchmarkRun(b *testing.B) {
	c, _ := console.New(words(0xE3A00005, forever), nil)
	for range b.N {
		c.Run(1 << 24)
		c.Trace()
		c.Frames()
		c.Samples()
	}
}
