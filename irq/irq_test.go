package irq_test

import (
	"math"
	"math/rand"
	"testing"

	"cameo/irq"
)

func TestTheExamples(t *testing.T) {
	c := irq.New()
	c.Write(0x200, 1)
	if c.Raise(0); !c.Wakes() || c.Fires() {
		t.Fatal()
	}
	if c.Write(0x208, 1); !c.Fires() {
		t.Fatal()
	}
	if c.Write(0x202, 1); c.Wakes() || c.Fires() {
		t.Fatal()
	}
	c = irq.New()
	c.Write(0x132, 0xC003)
	if c.Keys(1); c.Read(0x202) != 0 {
		t.Fatal()
	}
	if c.Keys(3); c.Read(0x202) != 0x1000 {
		t.Fatal()
	}
}

func TestRaise(t *testing.T) {
	for bit := -2; bit < 40; bit++ {
		c := irq.New()
		c.Raise(bit)
		want := uint16(0)
		if bit >= 0 && bit < 14 {
			want = 1 << bit
		}
		if c.Read(0x202) != want {
			t.Fatal(bit)
		}
		for other := range 14 {
			c.Write(0x200, 1<<other)
			if c.Wakes() != (bit == other) || c.Fires() {
				t.Fatal(bit, other)
			}
		}
	}
	c := irq.New()
	c.Raise(math.MaxInt)
	c.Raise(math.MinInt)
	c.Raise(64)
	if c.Read(0x202) != 0 {
		t.Fatal()
	}
}

func TestRegisters(t *testing.T) {
	c := irq.New()
	for at := -4; at < 0x410; at++ {
		want := uint16(0)
		if at == 0x130 {
			want = 0x3FF
		}
		if c.Read(at) != want {
			t.Fatal(at)
		}
	}
	c.Write(0x130, 0)
	c.Keys(0xFC05)
	if c.Read(0x130) != 0x3FA {
		t.Fatal(c.Read(0x130))
	}
	c.Write(0x200, 0xFFFF)
	c.Write(0x132, 0xBFFF)
	if c.Read(0x200) != 0x3FFF || c.Read(0x132) != 0x83FF || c.Read(0x202) != 0 {
		t.Fatal()
	}
	c.Write(0x208, 0xFFFE)
	if c.Read(0x208) != 0 {
		t.Fatal()
	}
	c.Write(0x208, 0xFFFF)
	if c.Read(0x208) != 1 {
		t.Fatal()
	}
	for i := range 14 {
		c.Raise(i)
	}
	if c.Read(0x202) != 0x3FFF {
		t.Fatal()
	}
	c.Write(0x202, 0x0F0F)
	if c.Read(0x202) != 0x30F0 {
		t.Fatal()
	}
	for _, at := range []int{0, 0x131, 0x133, 0x201, 0x203, 0x204, 0x206, 0x209, 0x20A, 0x300, -1, math.MaxInt} {
		c.Write(at, 0xFFFF)
	}
	if c.Read(0x202) != 0x30F0 || c.Read(0x200) != 0x3FFF || c.Read(0x132) != 0x83FF || c.Read(0x208) != 1 {
		t.Fatal()
	}
}

func TestKeypad(t *testing.T) {
	r := rand.New(rand.NewSource(1))
	for range 20000 {
		want, keys := uint16(r.Uint32()), uint16(r.Uint32())
		if r.Intn(2) == 0 {
			want &= 0xC007
		}
		if r.Intn(3) == 0 {
			want &= 0xC000
		}
		if r.Intn(2) == 0 {
			keys &= 7
		}
		given := want & 0x3FF
		asked := keys&given != 0
		if want>>15 == 1 {
			asked = keys&given == given
		}
		asked = asked && want>>14&1 == 1
		for order := range 2 {
			c := irq.New()
			if order == 0 {
				c.Keys(keys)
				if c.Read(0x202) != 0 {
					t.Fatal()
				}
				c.Write(0x132, want)
			} else {
				c.Write(0x132, want&0x3FFF)
				c.Write(0x132, want)
				c.Write(0x202, 0xFFFF)
				c.Keys(keys)
			}
			if (c.Read(0x202) == 0x1000) != asked || c.Read(0x202)&^0x1000 != 0 {
				t.Fatalf("%04x %04x %d", want, keys, order)
			}
			// Each time they are set, again.
			c.Write(0x202, 0xFFFF)
			c.Keys(keys)
			if (c.Read(0x202) == 0x1000) != asked {
				t.Fatalf("%04x %04x", want, keys)
			}
		}
	}
}

func TestNoController(t *testing.T) {
	var c *irq.Ctl
	c.Raise(0)
	c.Keys(1)
	c.Write(0x200, 1)
	if c.Wakes() || c.Fires() || c.Read(0x130) != 0 {
		t.Fatal()
	}
}
