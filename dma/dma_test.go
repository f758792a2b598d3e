package dma_test

import (
	"math"
	"math/rand"
	"testing"

	"cameo/dma"
)

type access struct {
	ch    int
	write bool
	addr  uint32
	width int
	class int
	x     uint32
}

// recorder gives each address a number of its own, and notes all accesses.
type recorder struct {
	log    []access
	during func(write bool)
}

func value(addr uint32) uint32 { return addr*2654435761 ^ 0x5A5A1234 }

func (r *recorder) Load(ch int, addr uint32, width, class int) uint32 {
	x := value(addr)
	if width == 2 {
		x &= 0xFFFF
	}
	r.log = append(r.log, access{ch, false, addr, width, class, x})
	if r.during != nil {
		r.during(false)
	}
	return x
}

func (r *recorder) Store(ch int, addr uint32, width, class int, x uint32) {
	r.log = append(r.log, access{ch, true, addr, width, class, x})
	if r.during != nil {
		r.during(true)
	}
}

func set(u *dma.Unit, i int, from, to uint32, count, control uint16) {
	u.Write(i, 0, uint16(from))
	u.Write(i, 1, uint16(from>>16))
	u.Write(i, 2, uint16(to))
	u.Write(i, 3, uint16(to>>16))
	u.Write(i, 4, count)
	u.Write(i, 5, control)
}

func half(addr uint32) uint32 { return value(addr)&0xFFFF | value(addr)<<16 }

func TestTheExample(t *testing.T) {
	u, m := dma.New(), &recorder{}
	if u.Ready() != -1 {
		t.Fatal()
	}
	set(u, 0, 0x2000000, 0x3000000, 2, 0x8000)
	if u.Ready() != 0 || u.Control(0) != 0x8000 {
		t.Fatal()
	}
	if ch, done, irq := u.Step(m); ch != 0 || done || irq {
		t.Fatal(ch, done, irq)
	}
	if ch, done, irq := u.Step(m); ch != 0 || !done || irq || u.Control(0) != 0 || u.Ready() != -1 {
		t.Fatal(ch, done, irq)
	}
	want := []access{
		{0, false, 0x2000000, 2, 0, value(0x2000000) & 0xFFFF}, {0, true, 0x3000000, 2, 0, half(0x2000000)},
		{0, false, 0x2000002, 2, 1, value(0x2000002) & 0xFFFF}, {0, true, 0x3000002, 2, 1, half(0x2000002)},
	}
	for i, a := range m.log {
		if a != want[i] {
			t.Fatal(i, a, want[i])
		}
	}
	if ch, done, irq := u.Step(m); ch != -1 || done || irq || len(m.log) != 4 {
		t.Fatal(ch)
	}
	set(u, 0, 0x2000000, 0x3000000, 2, 0x8000)
	if ch, done, irq := u.Step(nil); ch != -1 || done || irq || u.Ready() != 0 {
		t.Fatal(ch)
	}
}

func TestRegisters(t *testing.T) {
	for i := range 4 {
		u, m := dma.New(), &recorder{}
		set(u, i, 0xFFFFFFFF, 0xFFFFFFFF, 1, 0xFFFF&^0x3000|0)
		if u.Control(i) != 0xC7E0 {
			t.Fatalf("%v", u.Control(i))
		}
		src, dst := uint32(0xFFFFFFC), uint32(0x7FFFFFC)
		if i == 0 {
			src = 0x7FFFFFC
		}
		if i == 3 {
			dst = 0xFFFFFFC
		}
		u.Step(m)
		if m.log[0].addr != src || m.log[1].addr != dst || m.log[0].width != 4 {
			t.Fatalf("%d %v", i, m.log)
		}
		for _, part := range []int{-1, 6, math.MaxInt} {
			u.Write(i, part, 0x8000)
		}
	}
	u := dma.New()
	for _, i := range []int{-1, 4, math.MaxInt, math.MinInt} {
		set(u, i, 0x2000000, 0x3000000, 1, 0x8000)
		if u.Control(i) != 0 || u.Ready() != -1 {
			t.Fatal(i)
		}
	}
}

// units tells how many units a channel brings till it is done.
func units(u *dma.Unit, m dma.Memory) int {
	for n := 1; ; n++ {
		if _, done, _ := u.Step(m); done {
			return n
		}
	}
}

func TestCounts(t *testing.T) {
	for i := range 4 {
		for _, x := range []uint16{0, 1, 2, 0x3FFF, 0x4000, 0x4001, 0xFFFF} {
			u := dma.New()
			set(u, i, 0x2000000, 0x3000000, x, 0x8000)
			want := int(x) % 16384
			if want == 0 {
				want = 16384
			}
			if i == 3 {
				want = int(x)
				if want == 0 {
					want = 65536
				}
			}
			if n := units(u, &recorder{}); n != want {
				t.Fatal(i, x, n)
			}
		}
	}
}

func TestDirections(t *testing.T) {
	for dst := range uint16(4) {
		for src := range uint16(4) {
			for _, word := range []uint16{0, 1} {
				u, m := dma.New(), &recorder{}
				set(u, 3, 0x2000103, 0x3000103, 3, 0x8000|dst<<5|src<<7|word<<10)
				units(u, m)
				width := 2 + 2*int(word)
				low := uint32(width - 1)
				move := map[uint16]uint32{0: uint32(width), 1: -uint32(width), 2: 0, 3: uint32(width)}
				from, to := uint32(0x2000103), uint32(0x3000103)
				for k := range 3 {
					r, w := m.log[2*k], m.log[2*k+1]
					if r.addr != from&^low || w.addr != to&^low || r.width != width || w.width != width {
						t.Fatalf("%d %d: %v %v", dst, src, r, w)
					}
					x := value(from &^ low)
					if word == 0 {
						x = half(from &^ low)
					}
					if w.x != x {
						t.Fatal(w)
					}
					from += move[src]
					to += move[dst]
				}
			}
		}
	}
}

func TestLowSourcesGiveTheLastValue(t *testing.T) {
	u, m := dma.New(), &recorder{}
	set(u, 1, 0x1FFFFFC, 0x3000000, 3, 0x8400)
	units(u, m)
	want := []access{
		{1, true, 0x3000000, 4, 0, 0},
		{1, false, 0x2000000, 4, 1, value(0x2000000)}, {1, true, 0x3000004, 4, 1, value(0x2000000)},
	}
	// The second unit begins at 2000000; the first one read nothing.
	if m.log[0] != want[0] || m.log[1] != want[1] || m.log[2] != want[2] {
		t.Fatalf("%v", m.log)
	}
	m.log = nil
	set(u, 1, 0, 0x3000000, 1, 0x8000)
	units(u, m)
	if len(m.log) != 1 || m.log[0].x != value(0x2000004) || m.log[0].width != 2 {
		t.Fatalf("the value stays: %v", m.log)
	}
	set(u, 2, 0, 0x3000000, 1, 0x8400)
	units(u, m)
	if m.log[1].x != 0 {
		t.Fatal("each channel has its own")
	}
}

func TestTimings(t *testing.T) {
	for timing := range uint16(4) {
		for when := -1; when < 5; when++ {
			u := dma.New()
			set(u, 0, 0x2000000, 0x3000000, 1, 0x8000|timing<<12)
			if (u.Ready() == 0) != (timing == 0) {
				t.Fatal(timing)
			}
			u.Moment(when)
			want := timing == 0 || (when == 1 || when == 2) && int(timing) == when
			if (u.Ready() == 0) != want {
				t.Fatal(timing, when)
			}
		}
	}
	u := dma.New()
	set(u, 0, 0x2000000, 0x3000000, 1, 0x1000)
	u.Moment(dma.VBlank)
	if u.Ready() != -1 {
		t.Fatal("not enabled")
	}
}

func TestRepeat(t *testing.T) {
	for _, dst := range []uint16{0, 3} {
		u, m := dma.New(), &recorder{}
		set(u, 2, 0x2000000, 0x3000000, 2, 0x9200|dst<<5)
		for range 3 {
			u.Moment(dma.VBlank)
			if n := units(u, m); n != 2 || u.Ready() != -1 || u.Control(2) != 0x9200|dst<<5 {
				t.Fatal(n)
			}
		}
		for k := range 6 {
			r, w := m.log[2*k], m.log[2*k+1]
			to := uint32(0x3000000 + 2*k)
			if dst == 3 {
				to = uint32(0x3000000 + 2*(k%2))
			}
			if r.addr != uint32(0x2000000+2*k) || w.addr != to || r.class != k%2 || w.class != k%2 {
				t.Fatalf("%d %d %v %v", dst, k, r, w)
			}
		}
	}
	// The count is taken anew; at once it doesn't repeat.
	u, m := dma.New(), &recorder{}
	set(u, 2, 0x2000000, 0x3000000, 2, 0xA200)
	u.Write(2, 4, 5)
	u.Moment(dma.HBlank)
	if units(u, m) != 2 {
		t.Fatal()
	}
	u.Moment(dma.HBlank)
	if units(u, m) != 5 {
		t.Fatal()
	}
	set(u, 3, 0x2000000, 0x3000000, 1, 0x8200)
	if units(u, m) != 1 || u.Control(3) != 0x0200 {
		t.Fatal()
	}
}

func TestInterrupt(t *testing.T) {
	u := dma.New()
	set(u, 1, 0x2000000, 0x3000000, 2, 0xC000)
	if _, done, irq := u.Step(&recorder{}); done || irq {
		t.Fatal()
	}
	if _, done, irq := u.Step(&recorder{}); !done || !irq || u.Control(1) != 0x4000 {
		t.Fatal()
	}
}

func TestSound(t *testing.T) {
	for i := range 4 {
		u, m := dma.New(), &recorder{}
		set(u, i, 0x2000000, 0x40000A0, 100, 0xB200|1<<5) // halfwords, decreasing
		u.Hungry(0x40000A4)
		if u.Ready() != -1 {
			t.Fatal()
		}
		u.Hungry(0x40000A0)
		if i == 0 || i == 3 {
			if u.Ready() != -1 {
				t.Fatal("only channels 1 and 2 feed the sound")
			}
			continue
		}
		for round := range 2 {
			if round > 0 {
				u.Hungry(0x40000A0)
			}
			if n := units(u, m); n != 4 {
				t.Fatal(n)
			}
		}
		for k := range 8 {
			r, w := m.log[2*k], m.log[2*k+1]
			class := 1
			if k%4 == 0 {
				class = 0
			}
			if r != (access{i, false, uint32(0x2000000 + 4*k), 4, class, value(uint32(0x2000000 + 4*k))}) || w != (access{i, true, 0x40000A0, 4, class, r.x}) {
				t.Fatalf("%v %v", r, w)
			}
		}
	}
	u := dma.New()
	set(u, 1, 0x2000000, 0x40000A0, 1, 0x3200)
	u.Hungry(0x40000A0)
	set(u, 2, 0x2000000, 0x40000A0, 1, 0xA200)
	u.Hungry(0x40000A0)
	if u.Ready() != -1 {
		t.Fatal()
	}
}

func TestTheLowestGoesFirst(t *testing.T) {
	u, m := dma.New(), &recorder{}
	set(u, 3, 0x2000000, 0x3000000, 3, 0x8000)
	set(u, 1, 0x2000000, 0x3000000, 1, 0xA000)
	var order []int
	for n := range 4 {
		if n == 1 {
			u.Moment(dma.HBlank)
		}
		if n == 2 {
			u.Moment(dma.HBlank) // done already
		}
		ch, _, _ := u.Step(m)
		order = append(order, ch)
	}
	for i, want := range []int{3, 1, 3, 3} {
		if order[i] != want {
			t.Fatal(order)
		}
	}
	if m.log[0].class != 0 || m.log[2].class != 0 || m.log[4].class != 1 {
		t.Fatal(m.log)
	}
}

func TestControlWrites(t *testing.T) {
	u, m := dma.New(), &recorder{}
	set(u, 0, 0x2000000, 0x3000000, 9, 0x8000)
	u.Step(m)
	u.Write(0, 0, 0x100)  // the working values stay
	u.Write(0, 5, 0x8400) // enabled already: it goes on, in words
	u.Step(m)
	if m.log[2].addr != 0x2000000 || m.log[2].width != 4 || m.log[2].class != 1 {
		t.Fatalf("%v", m.log)
	}
	u.Write(0, 5, 0x0400)
	if u.Ready() != -1 {
		t.Fatal("disabled")
	}
	u.Write(0, 5, 0x8400)
	u.Step(m)
	if m.log[4].addr != 0x2000100 || m.log[4].class != 0 {
		t.Fatalf("%v", m.log)
	}
	u.Write(0, 5, 0x9400) // another timing doesn't stop it
	if u.Ready() != 0 {
		t.Fatal()
	}
}

func TestAChannelWritesItself(t *testing.T) {
	u, m := dma.New(), &recorder{}
	m.during = func(write bool) {
		if write {
			u.Write(0, 5, 0)
		}
	}
	set(u, 0, 0x2000000, 0x40000BA, 5, 0x8000)
	if ch, done, irq := u.Step(m); ch != 0 || done || irq || u.Ready() != -1 || u.Control(0) != 0 {
		t.Fatal(ch, done)
	}
	// Stopped and begun anew in its own store: the new values count from there on.
	n := 0
	m.during = func(write bool) {
		if n++; write && n == 2 {
			u.Write(0, 5, 0)
			set(u, 0, 0x2000200, 0x3000200, 3, 0x8080)
		}
	}
	m.log = nil
	set(u, 0, 0x2000000, 0x3000000, 1, 0x8000)
	if _, done, _ := u.Step(m); done {
		t.Fatal()
	}
	if _, done, _ := u.Step(m); done {
		t.Fatal()
	}
	if _, done, _ := u.Step(m); !done {
		t.Fatal()
	}
	if a := m.log[2]; a.addr != 0x20001FE || a.class != 0 || m.log[3].addr != 0x3000202 {
		t.Fatalf("%v", m.log)
	}
}

func TestNoUnit(t *testing.T) {
	var u *dma.Unit
	u.Write(0, 5, 0x8000)
	u.Moment(1)
	u.Hungry(0)
	if ch, done, irq := u.Step(&recorder{}); ch != -1 || done || irq || u.Ready() != -1 || u.Control(0) != 0 {
		t.Fatal()
	}
}

// Against a model that keeps to the chapter's words.
type modelChannel struct {
	src, dst, cs, cd, last uint32
	count, control         uint16
	left                   int
	active, first          bool
}

type model [4]modelChannel

func (m *model) feeds(i int) bool {
	c := m[i]
	return c.control>>15 == 1 && c.control>>12&3 == 3 && (i == 1 || i == 2)
}

func (m *model) load(i int) {
	c := &m[i]
	c.left = int(c.count)
	if c.left == 0 {
		c.left = 16384
		if i == 3 {
			c.left = 65536
		}
	}
	if m.feeds(i) {
		c.left = 4
	}
	c.first = true
}

func (m *model) write(i, part int, x uint16) {
	c := &m[i]
	mask := uint32(0xFFF)
	switch part {
	case 0:
		c.src = c.src>>16<<16 | uint32(x)
	case 1:
		if i == 0 {
			mask = 0x7FF
		}
		c.src = c.src&0xFFFF | uint32(x)&mask<<16
	case 2:
		c.dst = c.dst>>16<<16 | uint32(x)
	case 3:
		if i < 3 {
			mask = 0x7FF
		}
		c.dst = c.dst&0xFFFF | uint32(x)&mask<<16
	case 4:
		if i < 3 {
			x %= 16384
		}
		c.count = x
	case 5:
		was := c.control>>15 == 1
		c.control = x &^ 0x081F
		if c.control>>15 == 0 {
			c.active = false
		} else if !was {
			c.cs, c.cd = c.src, c.dst
			m.load(i)
			c.active = c.control>>12&3 == 0
		}
	}
}

func (m *model) step() ([]access, int, bool, bool) {
	for i := range m {
		c := &m[i]
		if !c.active {
			continue
		}
		width := 2
		if c.control>>10&1 == 1 || m.feeds(i) {
			width = 4
		}
		class := 1
		if c.first {
			class = 0
		}
		c.first = false
		var log []access
		if a := c.cs / uint32(width) * uint32(width); a >= 0x2000000 {
			x := value(a)
			if width == 2 {
				x &= 0xFFFF
			}
			log = append(log, access{i, false, a, width, class, x})
			if c.last = x; width == 2 {
				c.last = x * 0x10001
			}
		}
		log = append(log, access{i, true, c.cd / uint32(width) * uint32(width), width, class, c.last})
		c.cs += uint32([]int{width, -width, 0, width}[c.control>>7&3])
		if !m.feeds(i) {
			c.cd += uint32([]int{width, -width, 0, width}[c.control>>5&3])
		}
		if c.left--; c.left > 0 {
			return log, i, false, false
		}
		c.active = false
		if c.control>>9&1 == 1 && c.control>>12&3 != 0 {
			m.load(i)
			if c.control>>5&3 == 3 {
				c.cd = c.dst
			}
		} else {
			c.control &^= 0x8000
		}
		return log, i, true, c.control>>14&1 == 1
	}
	return nil, -1, false, false
}

func TestRandomHistories(t *testing.T) {
	for seed := range 300 {
		r := rand.New(rand.NewSource(int64(seed)))
		u, m, rec := dma.New(), &model{}, &recorder{}
		for range 400 {
			switch r.Intn(8) {
			case 0, 1:
				i, part, x := r.Intn(4), r.Intn(6), uint16(r.Uint32())
				switch part {
				case 1, 3:
					x = x&0xF800 | uint16(r.Intn(5)<<8)
				case 4:
					x = uint16(r.Intn(5))
				case 5:
					x |= 0x8000
				}
				u.Write(i, part, x)
				m.write(i, part, x)
			case 2:
				when := r.Intn(5) - 1
				u.Moment(when)
				for i := range m {
					if (when == 1 || when == 2) && m[i].control>>15 == 1 && int(m[i].control>>12&3) == when {
						m[i].active = true
					}
				}
			case 3:
				k := 1 + r.Intn(2)
				u.Hungry(m[k].cd)
				for i := range m {
					if m.feeds(i) && m[i].cd == m[k].cd {
						m[i].active = true
					}
				}
			default:
				rec.log = nil
				ch, done, irq := u.Step(rec)
				log, wch, wdone, wirq := m.step()
				if ch != wch || done != wdone || irq != wirq || len(log) != len(rec.log) {
					t.Fatal(seed, ch, done, irq, wch, wdone, wirq)
				}
				for i := range log {
					if log[i] != rec.log[i] {
						t.Fatalf("%d %v %v", seed, rec.log[i], log[i])
					}
				}
			}
			for i := range 4 {
				if u.Control(i) != m[i].control {
					t.Fatal(seed)
				}
			}
		}
	}
}
