package timer_test

import (
	"math"
	"math/rand"
	"testing"

	"cameo/timer"
)

// one is a timer that is looked at in each cycle.
type one struct {
	reload, control uint16
	count           int
	since           int
}

type model [4]one

func (m *model) alone(i int) bool {
	return m[i].control&0x80 != 0 && (i == 0 || m[i].control&4 == 0)
}

// tick goes to a cycle and tells which timers overflow in it.
func (m *model) tick(now int) int {
	bits, over := 0, false
	for i := range m {
		c := &m[i]
		up := false
		if m.alone(i) {
			step := []int{1, 64, 256, 1024}[c.control&3]
			up = (now-c.since)%step == 0
		} else if c.control&0x80 != 0 {
			up = over
		}
		over = false
		if !up {
			continue
		}
		if c.count++; c.count == 65536 {
			c.count = int(c.reload)
			over = true
			bits |= 1 << i
			if m.alone(i) {
				c.since = now
			}
		}
	}
	return bits
}

func (m *model) set(i, now int, x uint16) {
	c := &m[i]
	ran := c.control&0x80 != 0
	c.control = x & 0xC7
	c.since = now
	if !ran && x&0x80 != 0 {
		c.count = int(c.reload)
	}
}

func TestTheExample(t *testing.T) {
	u := timer.New()
	u.SetReload(0, 65534)
	u.SetControl(0, 10, 0x80)
	if at, ok := u.Next(); at != 12 || !ok {
		t.Fatal(at, ok)
	}
	if at, bits := u.Fire(11); at != 0 || bits != 0 {
		t.Fatal(at, bits)
	}
	if at, bits := u.Fire(12); at != 12 || bits != 1 {
		t.Fatal(at, bits)
	}
	if at, ok := u.Next(); at != 14 || !ok {
		t.Fatal(at, ok)
	}
	u = timer.New()
	u.SetReload(0, 65534)
	u.SetControl(0, 10, 0x80)
	u.SetReload(1, 65535)
	u.SetControl(1, 10, 0x84)
	if at, bits := u.Fire(12); at != 12 || bits != 3 {
		t.Fatal(at, bits)
	}
}

func TestAgainstCycles(t *testing.T) {
	for seed := range 300 {
		r := rand.New(rand.NewSource(int64(seed)))
		u, m := timer.New(), &model{}
		fired := 0
		for now := range 6000 {
			if now > 0 {
				bits := m.tick(now)
				at, got := u.Fire(now)
				if got != bits || (bits != 0 && at != now) || (bits == 0 && at != 0) {
					t.Fatal(seed, now, at, got, bits)
				}
				if at, got := u.Fire(now); at != 0 || got != 0 {
					t.Fatal("twice")
				}
				if bits != 0 {
					fired++
				}
			}
			if r.Intn(40) == 0 {
				i := r.Intn(4)
				x := uint16(65536 - 1 - r.Intn(9))
				if r.Intn(9) == 0 {
					x = uint16(r.Uint32())
				}
				u.SetReload(i, x)
				m[i].reload = x
			}
			if r.Intn(60) == 0 {
				i := r.Intn(4)
				x := uint16(r.Uint32())&0xFF7C | uint16(r.Intn(8)/6)
				if r.Intn(3) > 0 {
					x |= 0x80
				}
				u.SetControl(i, now, x)
				m.set(i, now, x)
			}
			for i := range 4 {
				if u.Read(i, now) != uint16(m[i].count) || u.Control(i) != m[i].control || u.Asks(i) != (m[i].control&0x40 != 0) {
					t.Fatal(seed, now, i, u.Read(i, now), m[i])
				}
			}
		}
		if seed == 0 && fired == 0 {
			t.Fatal("nothing happened")
		}
	}
}

func TestStepsAndDistances(t *testing.T) {
	for i := range 4 {
		for k, step := range []int{1, 64, 256, 1024} {
			for _, reload := range []int{0, 1, 60000, 65535} {
				u := timer.New()
				u.SetReload(i, uint16(reload))
				u.SetControl(i, 100, uint16(0x80|k))
				at := 100
				for range 4 {
					at += (65536 - reload) * step
					if u.Read(i, at-1) != 65535 {
						t.Fatal(u.Read(i, at-1))
					}
					if next, ok := u.Next(); !ok || next != at {
						t.Fatal(next, at)
					}
					if c, bits := u.Fire(at + 5); c != at || bits != 1<<i {
						t.Fatal(c, bits)
					}
					if u.Read(i, at) != uint16(reload) {
						t.Fatal(u.Read(i, at))
					}
				}
			}
		}
	}
}

// Without Fire the count goes on beyond its overflow, in sixteen bits.
func TestReadBeyondTheOverflow(t *testing.T) {
	u := timer.New()
	u.SetReload(2, 65530)
	u.SetControl(2, 0, 0x80)
	for now, want := range map[int]uint16{5: 65535, 6: 0, 16: 10, 65536 + 6: 0} {
		if u.Read(2, now) != want {
			t.Fatal(now, u.Read(2, now))
		}
	}
}

func TestTimerZeroFollowsNobody(t *testing.T) {
	u := timer.New()
	u.SetControl(0, 0, 0xFF)
	if u.Control(0) != 0xC7 {
		t.Fatal()
	}
	if at, ok := u.Next(); !ok || at != 65536*1024 {
		t.Fatal(at, ok)
	}
	u = timer.New()
	u.SetControl(1, 0, 0x84)
	if _, ok := u.Next(); ok {
		t.Fatal("a timer that follows doesn't overflow on its own")
	}
}

func TestStopAndGoOn(t *testing.T) {
	u := timer.New()
	u.SetReload(3, 100)
	u.SetControl(3, 0, 0x80)
	u.SetControl(3, 7, 0)
	if u.Read(3, 50) != 107 {
		t.Fatal(u.Read(3, 50))
	}
	if _, ok := u.Next(); ok {
		t.Fatal()
	}
	u.SetReload(3, 200)
	if u.Read(3, 60) != 107 {
		t.Fatal("a reload value isn't a count")
	}
	u.SetControl(3, 60, 0x81)
	if u.Read(3, 60) != 200 || u.Read(3, 123) != 200 || u.Read(3, 124) != 201 {
		t.Fatal()
	}
	u.SetControl(3, 130, 0xC1) // runs on, and the step begins anew
	if u.Read(3, 193) != 201 || u.Read(3, 194) != 202 || !u.Asks(3) {
		t.Fatal()
	}
}

func TestNoTimer(t *testing.T) {
	var none *timer.Timers
	for _, u := range []*timer.Timers{none, timer.New()} {
		for _, i := range []int{-1, 4, math.MaxInt, math.MinInt} {
			u.SetReload(i, 9)
			u.SetControl(i, 0, 0x80)
			if u.Read(i, 5) != 0 || u.Control(i) != 0 || u.Asks(i) {
				t.Fatal(i)
			}
		}
		if at, ok := u.Next(); at != 0 || ok {
			t.Fatal()
		}
		if at, bits := u.Fire(1 << 41); at != 0 || bits != 0 {
			t.Fatal()
		}
	}
	none.SetReload(0, 1)
	none.SetControl(0, 0, 0x80)
	if none.Read(0, 9) != 0 || none.Control(0) != 0 || none.Asks(0) {
		t.Fatal()
	}
}
