package psg_test

import (
	"math"
	"math/rand"
	"testing"

	"cameo/psg"
)

// one is a channel of the model, which goes cycle by cycle.
type one struct {
	on, uses                     bool
	length, freq, pos, left      int
	start, step, volume, eighths int
	up                           bool
	duty                         int
}

type model struct {
	now             int
	ch              [4]one
	by, in, fourths int
	down            bool
	pages           [2][16]byte
	page, loud      int
	both, power     bool
	word            int
	narrow          bool
	shift, div      int
}

func (m *model) stepOf(i int) int {
	switch i {
	case 2:
		return 8 * (2048 - m.ch[2].freq)
	case 3:
		d := 64 * m.div
		if m.div == 0 {
			d = 32
		}
		for range m.shift {
			d *= 2
		}
		return d
	}
	return 16 * (2048 - m.ch[i].freq)
}

func (m *model) cycle() {
	m.now++
	for i := range m.ch {
		c := &m.ch[i]
		if !c.on {
			continue
		}
		if c.left--; c.left != 0 {
			continue
		}
		c.left = m.stepOf(i)
		switch i {
		case 2:
			c.pos = (c.pos + 1) % 64
		case 3:
			x := m.word%2 ^ m.word/2%2
			m.word /= 2
			m.word = m.word%16384 + 16384*x
			if m.narrow {
				m.word = m.word - m.word/64%2*64 + 64*x
			}
		default:
			c.pos = (c.pos + 1) % 8
		}
	}
	if m.now%32768 == 0 {
		m.beat(m.now / 32768)
	}
}

func (m *model) beat(n int) {
	if n%2 == 0 {
		for i := range m.ch {
			if c := &m.ch[i]; c.on && c.uses {
				if c.length--; c.length == 0 {
					c.on = false
				}
			}
		}
	}
	if c := &m.ch[0]; n%4 == 0 && c.on && m.in != 0 {
		if m.fourths--; m.fourths <= 0 {
			m.fourths = m.in
			next := c.freq + c.freq/(1<<m.by)
			if m.down {
				next = c.freq - c.freq/(1<<m.by)
			}
			if next > 2047 {
				c.on = false
			} else if m.by != 0 {
				c.freq = next
			}
		}
	}
	if n%8 == 0 {
		for _, i := range []int{0, 1, 3} {
			if c := &m.ch[i]; c.on && c.step != 0 {
				if c.eighths--; c.eighths == 0 {
					c.eighths = c.step
					if c.up && c.volume < 15 {
						c.volume++
					} else if !c.up && c.volume > 0 {
						c.volume--
					}
				}
			}
		}
	}
}

func (m *model) run(now int) {
	for m.now < now {
		m.cycle()
	}
}

func (m *model) begin(i int) {
	c := &m.ch[i]
	if c.length == 0 {
		c.length = 64
		if i == 2 {
			c.length = 256
		}
	}
	if i == 2 {
		c.on = m.power
	} else {
		c.on = c.start != 0 || c.up
	}
	c.volume, c.eighths, c.pos, c.left = c.start, c.step, 0, m.stepOf(i)
	if i == 0 {
		m.fourths = m.in
	}
}

func (m *model) write(now, reg int, x uint16) {
	m.run(now)
	w := int(x)
	switch reg {
	case 0:
		m.by, m.down, m.in = w%8, w>>3%2 == 1, w>>4%8
	case 1, 3, 7:
		c := &m.ch[map[int]int{1: 0, 3: 1, 7: 3}[reg]]
		c.length, c.duty, c.step, c.up, c.start = 64-w%64, w>>6%4, w>>8%8, w>>11%2 == 1, w>>12
		if c.start == 0 && !c.up {
			c.on = false
		}
	case 2, 4, 9:
		i := map[int]int{2: 0, 4: 1, 9: 2}[reg]
		m.ch[i].freq, m.ch[i].uses = w%2048, w>>14%2 == 1
		if w>>15 == 1 {
			m.begin(i)
		}
	case 5:
		m.both, m.page, m.power, m.ch[2].length = w>>5%2 == 1, w>>6%2, w>>7%2 == 1, 256-w>>8
		if !m.power {
			m.ch[2].on = false
		}
	case 6:
		m.loud = []int{0, 1, 2, 3, 4, 4, 4, 4}[w>>13]
	case 8:
		m.div, m.narrow, m.shift, m.ch[3].uses = w%8, w>>3%2 == 1, w>>4%16, w>>14%2 == 1
		if w>>15 == 1 {
			m.begin(3)
			m.word = 0x7FFF
		}
	}
}

func (m *model) out() [4]int {
	var o [4]int
	for i := range 2 {
		if c := m.ch[i]; c.on && c.pos < []int{1, 2, 4, 6}[c.duty] {
			o[i] = c.volume
		}
	}
	if m.ch[2].on {
		at := m.ch[2].pos
		if !m.both {
			at %= 32
		}
		at = (at + 32*m.page) % 64
		n := int(m.pages[at/32][at%32/2])
		if at%2 == 0 {
			n /= 16
		}
		n %= 16
		o[2] = []int{0, n, n / 2, n / 4, n * 3 / 4}[m.loud]
	}
	if m.ch[3].on && m.word%2 == 0 {
		o[3] = m.ch[3].volume
	}
	return o
}

func (m *model) playing() int {
	bits := 0
	for i := range m.ch {
		if m.ch[i].on {
			bits += 1 << i
		}
	}
	return bits
}

func same(t *testing.T, seed int, u *psg.Unit, m *model) {
	t.Helper()
	if u.Out() != m.out() || u.Playing() != m.playing() {
		t.Fatal(seed, m.now, u.Out(), m.out(), u.Playing(), m.playing())
	}
}

// word makes a register's word of a kind that is likely to sound.
func word(r *rand.Rand, reg int) uint16 {
	x := uint16(r.Uint32())
	switch reg {
	case 0:
		x = x&0xF | uint16(r.Intn(3))<<4
	case 1, 3, 7:
		if r.Intn(2) == 0 {
			x |= 0x3C
		}
		if r.Intn(2) == 0 {
			x = x&^0x700 | 0x100
		}
	case 5:
		if r.Intn(4) > 0 {
			x |= 0x80
		}
		if r.Intn(2) == 0 {
			x |= 0xFC00
		}
	case 2, 4, 8, 9:
		if r.Intn(3) > 0 {
			x |= 0x8000
		}
		if reg == 8 {
			x &^= 0xC0
		} else if r.Intn(2) == 0 {
			x |= 0x780
		}
	}
	return x
}

func TestAgainstCycles(t *testing.T) {
	heard := 0
	for seed := range 60 {
		r := rand.New(rand.NewSource(int64(seed)))
		u, m := psg.New(), &model{}
		now := 0
		for range 150 {
			switch r.Intn(4) {
			case 0:
				now += r.Intn(30)
			case 1:
				now += r.Intn(3000)
			case 2:
				now += r.Intn(60000)
			case 3:
				now = (now/32768+1)*32768 + r.Intn(3) - 1
			}
			switch r.Intn(4) {
			case 0:
				i, x := r.Intn(20)-2, byte(r.Uint32())
				u.Bank(now, i, x)
				m.run(now)
				if i >= 0 && i < 16 {
					m.pages[1-m.page][i] = x
				}
			case 1:
				u.Run(now)
				m.run(now)
			default:
				reg := r.Intn(12) - 1
				x := word(r, reg)
				u.Write(now, reg, x)
				m.write(now, reg, x)
			}
			same(t, seed, u, m)
			if u.Out() != [4]int{} {
				heard++
			}
			for i := -1; i < 18; i++ {
				want := byte(0)
				if i >= 0 && i < 16 {
					want = m.pages[1-m.page][i]
				}
				if u.Peek(i) != want {
					t.Fatal(seed, i)
				}
			}
		}
	}
	if heard < 1000 {
		t.Fatal("hardly anything was heard", heard)
	}
}

func TestTheExample(t *testing.T) {
	u := psg.New()
	u.Write(0, 1, 0xF080)
	u.Write(0, 2, 0x8700)
	for now, want := range []int{15, 15, 15, 15, 0, 0, 0, 0, 15} {
		u.Run(now*16*256 - 1)
		if now > 0 && u.Out()[0] != []int{15, 15, 15, 15, 15, 0, 0, 0, 0}[now] {
			t.Fatal(now)
		}
		u.Run(now * 16 * 256)
		if u.Out() != [4]int{want} {
			t.Fatal(now, u.Out())
		}
	}
}

// longRun lets many beats pass, in parts and at once.
func TestRunInParts(t *testing.T) {
	for seed := range 40 {
		r := rand.New(rand.NewSource(int64(seed)))
		a, b := psg.New(), psg.New()
		for range 30 {
			reg := r.Intn(10)
			x := word(r, reg)
			a.Write(0, reg, x)
			b.Write(0, reg, x)
		}
		const end = 3000000
		a.Run(end)
		for now := 0; now < end; now += r.Intn(90000) {
			b.Run(now)
		}
		b.Run(end)
		b.Run(end - 5) // reached already
		for range 50 {
			if a.Out() != b.Out() || a.Playing() != b.Playing() {
				t.Fatal(seed)
			}
			now := end + r.Intn(100000)
			a.Run(now)
			b.Run(now)
		}
	}
}

// The noise comes again and again: leaving steps out must lead to the same.
func TestVeryLongNoise(t *testing.T) {
	for _, x := range []uint16{0x8000, 0x8008, 0x8001} {
		a, b := psg.New(), psg.New()
		a.Write(0, 7, 0xF000)
		a.Write(0, 8, x)
		b.Write(0, 7, 0xF000)
		b.Write(0, 8, x)
		const end = 600000037
		a.Run(end)
		for now := 0; now < end; now += 1000003 {
			b.Run(now)
		}
		for now := end; now < end+6400; now += 32 {
			a.Run(now)
			b.Run(now)
			if a.Out() != b.Out() {
				t.Fatal(x, now)
			}
		}
	}
}

// A length that has run down is the longest one when the channel starts again.
func TestTheLongestLength(t *testing.T) {
	for _, x := range []struct {
		set, start  int
		shape, word uint16
		longest     int
	}{{1, 2, 0xF03F, 0xC000, 64}, {3, 4, 0xF03F, 0xC000, 64}, {7, 8, 0xF03F, 0xC000, 64}, {5, 9, 0xFF80, 0xC000, 256}} {
		u := psg.New()
		u.Write(0, x.set, x.shape)
		u.Write(0, x.start, x.word)
		u.Run(2*32768 - 1)
		if u.Playing() == 0 {
			t.Fatal(x)
		}
		u.Run(2 * 32768)
		if u.Playing() != 0 {
			t.Fatal(x, "one second beat")
		}
		u.Write(2*32768, x.start, x.word)
		end := (2 + 2*x.longest) * 32768
		u.Run(end - 1)
		if u.Playing() == 0 {
			t.Fatal(x, "too short")
		}
		u.Run(end)
		if u.Playing() != 0 {
			t.Fatal(x, "too long")
		}
	}
}

func TestSilenceIsQuick(t *testing.T) {
	u := psg.New()
	u.Write(0, 1, 0xF03F)
	u.Write(0, 2, 0xC000)
	u.Run(1 << 41)
	if u.Playing() != 0 || u.Out() != [4]int{} {
		t.Fatal(u.Playing())
	}
	u.Write(math.MaxInt, 1, 0xF000)
	u.Run(math.MaxInt)
	u.Run(math.MinInt)
}

func TestNoUnit(t *testing.T) {
	var u *psg.Unit
	u.Write(0, 1, 1)
	u.Bank(0, 0, 1)
	u.Run(9)
	if u.Peek(0) != 0 || u.Out() != [4]int{} || u.Playing() != 0 {
		t.Fatal()
	}
}
