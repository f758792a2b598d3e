package eeprom_test

import (
	"math/rand"
	"strings"
	"testing"

	"cameo/api"
	"cameo/eeprom"
	"cameo/seal"
)

func chip(t *testing.T, image string) *eeprom.Chip {
	t.Helper()
	c, e := eeprom.New(image)
	if e != api.OK {
		t.Fatal(e)
	}
	return c
}

func random(r *rand.Rand, n int) string {
	b := make([]byte, n)
	r.Read(b)
	return string(b)
}

// bits gives the lowest n bits of x, the highest of them first.
func bits(x, n int) []byte {
	var out []byte
	for i := n - 1; i >= 0; i-- {
		out = append(out, byte(x>>i)&1)
	}
	return out
}

func bitsOf(s string) []byte {
	var out []byte
	for i := range len(s) {
		out = append(out, bits(int(s[i]), 8)...)
	}
	return out
}

func readRequest(addr, w int, last byte) []byte {
	return append(append([]byte{1, 1}, bits(addr, w)...), last)
}

func writeRequest(addr, w int, data string, last byte) []byte {
	return append(append(append([]byte{1, 0}, bits(addr, w)...), bitsOf(data)...), last)
}

// send writes all bits, of which none but the last may be a command.
func send(t *testing.T, c *eeprom.Chip, all []byte) (api.Command, bool) {
	t.Helper()
	for i, b := range all {
		x, ok := c.Write(b)
		if i == len(all)-1 {
			return x, ok
		}
		if ok || x != (api.Command{}) {
			t.Fatal(i, x)
		}
	}
	return api.Command{}, false
}

func expect(t *testing.T, c *eeprom.Chip, want []byte) {
	t.Helper()
	for i, w := range want {
		if b := c.Read(); b != w {
			t.Fatal(i, b, w)
		}
	}
}

var sizes = []struct{ n, w int }{{512, 6}, {8192, 14}}

func TestNew(t *testing.T) {
	for _, n := range []int{0, 1, 511, 513, 1024, 8191, 8193} {
		if c, e := eeprom.New(strings.Repeat("x", n)); c != nil || e != api.ErrArg {
			t.Fatal(n, e)
		}
	}
	for _, s := range sizes {
		image := random(rand.New(rand.NewSource(1)), s.n)
		c := chip(t, image)
		if c.Image() != image || c.Read() != 1 || c.Read() != 1 {
			t.Fatal()
		}
	}
}

func TestReadRequest(t *testing.T) {
	r := rand.New(rand.NewSource(2))
	for _, s := range sizes {
		image := random(r, s.n)
		c := chip(t, image)
		for range 300 {
			addr := r.Intn(1 << s.w)
			unit := addr % (s.n / 8)
			for range r.Intn(3) {
				send(t, c, []byte{0})
			}
			req := readRequest(addr, s.w, byte(r.Intn(2)))
			for i := range req {
				req[i] |= byte(r.Intn(128)) << 1 // only the lowest bit counts
			}
			if x, ok := send(t, c, req); ok || x != (api.Command{}) {
				t.Fatal(x)
			}
			want := append([]byte{0, 0, 0, 0}, bitsOf(image[unit*8:unit*8+8])...)
			expect(t, c, append(want, 1, 1)[:r.Intn(71)])
		}
	}
}

func TestWriteRequest(t *testing.T) {
	r := rand.New(rand.NewSource(3))
	for _, s := range sizes {
		image := random(r, s.n)
		c := chip(t, image)
		for range 300 {
			addr, data := r.Intn(1<<s.w), random(r, 8)
			at := addr % (s.n / 8) * 8
			x, ok := send(t, c, append(make([]byte, r.Intn(3)), writeRequest(addr, s.w, data, byte(r.Intn(2)))...))
			if !ok || x != (api.Command{Kind: api.CmdPut, Addr: at, Data: data}) {
				t.Fatal(x, ok)
			}
			image, _ = seal.Apply(image, x)
			if c.Image() != image {
				t.Fatal("another byte changed")
			}
			if c.Read() != 1 {
				t.Fatal("output")
			}
			send(t, c, readRequest(addr, s.w, 0))
			expect(t, c, append([]byte{0, 0, 0, 0}, bitsOf(data)...))
			expect(t, c, []byte{1, 1})
		}
	}
}

func TestOutputStaysTillItIsReplaced(t *testing.T) {
	image := random(rand.New(rand.NewSource(4)), 512)
	c := chip(t, image)
	whole := func(unit int) []byte {
		return append([]byte{0, 0, 0, 0}, bitsOf(image[unit*8:unit*8+8])...)
	}
	send(t, c, readRequest(2, 6, 0))
	expect(t, c, whole(2)[:10])
	req := readRequest(3, 6, 0)
	send(t, c, req[:8])
	expect(t, c, whole(2)[10:20])
	send(t, c, req[8:])
	expect(t, c, whole(3)[:30])
	w := writeRequest(9, 6, "abcdefgh", 1)
	send(t, c, w[:72])
	expect(t, c, whole(3)[30:40])
	if x, ok := send(t, c, w[72:]); !ok || x.Addr != 72 {
		t.Fatal(x)
	}
	expect(t, c, []byte{1, 1, 1, 1, 1})
	// A request that follows at once needs no 0 between.
	send(t, c, append(readRequest(1, 6, 1), readRequest(4, 6, 1)...))
	expect(t, c, whole(4))
	expect(t, c, []byte{1})
}

func TestNoChip(t *testing.T) {
	var c *eeprom.Chip
	if x, ok := c.Write(1); ok || x != (api.Command{}) || c.Read() != 1 || c.Image() != "" {
		t.Fatal()
	}
}
