package bank_test

import (
	"math/rand"
	"testing"

	"cameo/api"
	"cameo/bank"
)

// set names the registers of its own that a mode has.
func set(mode uint32) string {
	switch mode & 31 {
	case 17:
		return "fast"
	case 18:
		return "interrupt"
	case 19:
		return "supervisor"
	case 23:
		return "abort"
	case 27:
		return "undefined"
	}
	return "user"
}

type place struct {
	set string
	i   int
}

// model keeps each register under the name of those who share it.
type model struct {
	regs   map[place]uint32
	saved  map[string]uint32
	status uint32
}

func where(s string, i int) place {
	i &= 15
	switch {
	case i == 13 || i == 14:
		return place{s, i}
	case i >= 8 && i <= 12 && s == "fast":
		return place{s, i}
	}
	return place{"user", i}
}

func (m *model) setSaved(x uint32) {
	if s := set(m.status); s != "user" {
		m.saved[s] = x
	}
}

func (m *model) getSaved() uint32 {
	if s := set(m.status); s != "user" {
		return m.saved[s]
	}
	return m.status
}

func TestNew(t *testing.T) {
	b := bank.New()
	if b.Status() != 31 {
		t.Fatal(b.Status())
	}
	for mode := range uint32(32) {
		b.SetStatus(mode)
		for i := range 16 {
			if b.Get(i) != 0 || b.User(i) != 0 {
				t.Fatal(mode, i)
			}
		}
		if x := b.Saved(); set(mode) != "user" && x != 0 || set(mode) == "user" && x != mode {
			t.Fatal(mode, x)
		}
	}
}

func TestEachModeItsOwn(t *testing.T) {
	for from := range uint32(32) {
		for to := range uint32(32) {
			for i := -16; i < 40; i++ {
				b := bank.New()
				b.SetStatus(from)
				b.Set(i, 7)
				b.SetStatus(to | 0xF0000000)
				want := uint32(0)
				if where(set(from), i) == where(set(to), i) {
					want = 7
				}
				if b.Get(i) != want {
					t.Fatal(from, to, i, b.Get(i))
				}
				want = 0
				if where(set(from), i) == where("user", i) {
					want = 7
				}
				if b.User(i) != want {
					t.Fatal(from, to, i, b.User(i))
				}
				b.SetStatus(from)
				if b.Get(i) != 7 {
					t.Fatal("lost", from, to, i)
				}
			}
		}
	}
}

func TestRandomHistories(t *testing.T) {
	for seed := range 200 {
		r := rand.New(rand.NewSource(int64(seed)))
		b := bank.New()
		m := &model{regs: map[place]uint32{}, saved: map[string]uint32{}, status: 31}
		for range 300 {
			i, x := r.Intn(64)-16, r.Uint32()
			mode := []uint32{16, 17, 18, 19, 23, 27, 31, r.Uint32()}[r.Intn(8)]
			switch r.Intn(6) {
			case 0:
				b.Set(i, x)
				m.regs[where(set(m.status), i)] = x
			case 1:
				b.SetUser(i, x)
				m.regs[where("user", i)] = x
			case 2:
				x = x&^31 | mode&31
				b.SetStatus(x)
				m.status = x
			case 3:
				b.SetSaved(x)
				m.setSaved(x)
			case 4:
				b.Enter(mode, x)
				old := m.status
				m.status = old&^63 | mode&31 | 128
				m.setSaved(old)
				m.regs[where(set(m.status), 14)] = x
			}
			if b.Status() != m.status || b.Saved() != m.getSaved() {
				t.Fatal(seed, b.Status(), m.status)
			}
			for k := range 16 {
				if b.Get(k) != m.regs[where(set(m.status), k)] || b.User(k) != m.regs[where("user", k)] {
					t.Fatal(seed, k)
				}
			}
		}
	}
}

func TestExamples(t *testing.T) {
	b := bank.New()
	b.Set(13, 1)
	b.SetStatus(18)
	if b.Get(13) != 0 || b.User(13) != 1 {
		t.Fatal()
	}
	b.SetStatus(31)
	if b.Get(13) != 1 {
		t.Fatal()
	}
	b.SetStatus(0x80000010)
	b.Enter(27, 8)
	if b.Status() != 0x8000009B || b.Saved() != 0x80000010 || b.Get(14) != 8 || b.User(14) != 0 {
		t.Fatal()
	}
	b = bank.New()
	b.SetStatus(0x3F)
	b.Enter(0xFFFFFFF1, 4)
	if b.Status() != 0x91 || b.Saved() != 0x3F {
		t.Fatal(b.Status())
	}
	b.SetStatus(0x7F)
	b.Enter(16, 4)
	if b.Status() != 0xD0 || b.Saved() != 0xD0 || b.Get(14) != 4 {
		t.Fatal("User has no saved status")
	}
}

func TestFlags(t *testing.T) {
	r := rand.New(rand.NewSource(1))
	for range 200 {
		x := r.Uint32()
		f := bank.Flags(x)
		if f != (api.Flags{N: x>>31 == 1, Z: x>>30&1 == 1, C: x>>29&1 == 1, V: x>>28&1 == 1}) {
			t.Fatal(x, f)
		}
		if bank.With(x, f) != x {
			t.Fatal(x)
		}
		y := r.Uint32()
		if bank.With(x, bank.Flags(y)) != x<<4>>4|y>>28<<28 {
			t.Fatal(x, y)
		}
	}
}

func TestNoBank(t *testing.T) {
	var b *bank.Bank
	b.Set(1, 1)
	b.SetStatus(1)
	b.SetSaved(1)
	b.SetUser(1, 1)
	b.Enter(1, 1)
	if b.Get(1) != 0 || b.Status() != 0 || b.Saved() != 0 || b.User(1) != 0 {
		t.Fatal()
	}
}
