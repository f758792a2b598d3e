package ahead_test

import (
	"math"
	"math/rand"
	"testing"

	"cameo/ahead"
)

// model goes cycle by cycle.
type model struct {
	addr        uint32
	held, spent int
}

func (m *model) rest(cycles, s int) {
	if s < 1 {
		return
	}
	for range max(cycles, 0) {
		if m.held < 8 {
			m.spent++
		}
		for m.held < 8 && m.spent >= s {
			m.held++
			m.spent -= s
		}
		if m.held == 8 {
			m.spent = 0
		}
	}
}

func (m *model) fetch(addr uint32, halves, first, s int) int {
	if halves != 1 && halves != 2 || first < 1 || s < 1 {
		return 0
	}
	addr &^= 1
	cost := 1
	switch {
	case addr != m.addr:
		cost = first
		if halves == 2 {
			cost += s
		}
		m.held, m.spent = 0, 0
	case m.held >= halves:
		m.held -= halves
	default:
		if c := s*(halves-m.held) - m.spent; c > 1 {
			cost = c
		}
		m.held, m.spent = 0, 0
	}
	m.addr = addr + 2*uint32(halves)
	return cost
}

func same(t *testing.T, b *ahead.Buffer, m *model) {
	t.Helper()
	if a, n := b.Kept(); a != m.addr || n != m.held {
		t.Fatal(a, n, *m)
	}
}

func TestTheExample(t *testing.T) {
	b := ahead.New()
	if a, n := b.Kept(); a != 0 || n != 0 {
		t.Fatal(a, n)
	}
	if n := b.Fetch(0x8000000, 1, 5, 3); n != 5 {
		t.Fatal(n)
	}
	b.Rest(7, 3)
	if a, n := b.Kept(); a != 0x8000002 || n != 2 {
		t.Fatal(a, n)
	}
	if n := b.Fetch(0x8000002, 1, 5, 3); n != 1 {
		t.Fatal(n)
	}
	if n := b.Fetch(0x8000004, 2, 5, 3); n != 2 {
		t.Fatal(n)
	}
}

func TestAgainstCycles(t *testing.T) {
	for seed := range 2000 {
		r := rand.New(rand.NewSource(int64(seed)))
		b, m := ahead.New(), &model{}
		for range 60 {
			s := r.Intn(11) - 1
			switch r.Intn(7) {
			case 0, 1, 2:
				n := r.Intn(14) - 1
				if r.Intn(5) == 0 {
					n *= 10
				}
				b.Rest(n, s)
				m.rest(n, s)
			case 3:
				if r.Intn(6) == 0 {
					b.Drop()
					*m = model{}
				}
			default:
				addr := m.addr + uint32(r.Intn(2))
				if r.Intn(4) == 0 {
					addr = uint32(r.Intn(9)) - 2
				}
				halves, first := 1+r.Intn(2), 1+r.Intn(9)
				if r.Intn(9) == 0 {
					halves, first = r.Intn(5)-1, r.Intn(3)-1
				}
				if x, y := b.Fetch(addr, halves, first, s), m.fetch(addr, halves, first, s); x != y {
					t.Fatal(seed, x, y)
				}
			}
			same(t, b, m)
		}
	}
}

func TestRestInParts(t *testing.T) {
	for s := 1; s < 12; s++ {
		for total := range 100 {
			for part := range total {
				a, b := ahead.New(), ahead.New()
				a.Rest(total, s)
				b.Rest(part, s)
				b.Rest(total-part, s)
				x, n := a.Kept()
				y, m := b.Kept()
				if x != y || n != m || a.Fetch(0, 2, 9, s) != b.Fetch(0, 2, 9, s) {
					t.Fatal(s, total, part)
				}
			}
		}
	}
}

func TestInOrderNoSlowerThanWithout(t *testing.T) {
	r := rand.New(rand.NewSource(5))
	for range 3000 {
		b, addr := ahead.New(), uint32(0x8000000)
		first, s := 1+r.Intn(9), 1+r.Intn(9)
		b.Fetch(addr, 1, first, s)
		addr += 2
		for range 30 {
			b.Rest(r.Intn(20), s)
			halves := 1 + r.Intn(2)
			if n := b.Fetch(addr, halves, first, s); n < 1 || n > halves*s {
				t.Fatal(n, halves, s)
			}
			addr += 2 * uint32(halves)
		}
	}
}

func TestNumbersBeyondAllBounds(t *testing.T) {
	b := ahead.New()
	b.Fetch(0xFFFFFFFE, 1, 1, 1)
	if a, _ := b.Kept(); a != 0 {
		t.Fatal(a)
	}
	b.Rest(math.MaxInt, math.MaxInt)
	if _, n := b.Kept(); n != 1 {
		t.Fatal(n)
	}
	b.Rest(math.MaxInt-1, math.MaxInt)
	b.Rest(math.MaxInt-1, math.MaxInt)
	if _, n := b.Kept(); n != 2 {
		t.Fatal(n)
	}
	b.Rest(math.MaxInt, 1)
	if _, n := b.Kept(); n != 8 {
		t.Fatal(n)
	}
	b.Rest(math.MinInt, 1)
	b.Rest(1, math.MinInt)
	for _, x := range [][4]int{{0, 3, 1, 1}, {0, 0, 1, 1}, {0, -1, 1, 1}, {0, 1, 0, 1}, {0, 1, 1, 0}, {0, 1, math.MinInt, 1}, {0, math.MaxInt, 1, 1}} {
		if n := b.Fetch(uint32(x[0]), x[1], x[2], x[3]); n != 0 {
			t.Fatal(x, n)
		}
	}
	if _, n := b.Kept(); n != 8 {
		t.Fatal("changed")
	}
}

func TestNoBuffer(t *testing.T) {
	var b *ahead.Buffer
	b.Rest(9, 1)
	b.Drop()
	if a, n := b.Kept(); a != 0 || n != 0 || b.Fetch(0, 1, 1, 1) != 0 {
		t.Fatal()
	}
}
