package flash_test

import (
	"math"
	"math/rand"
	"strings"
	"testing"

	"cameo/api"
	"cameo/flash"
	"cameo/seal"
)

type write struct {
	addr uint32
	b    byte
}

func chip(t *testing.T, image string) *flash.Chip {
	t.Helper()
	c, e := flash.New(image)
	if e != api.OK {
		t.Fatal(e)
	}
	return c
}

// send writes all, of which none but the last may be a command.
func send(t *testing.T, c *flash.Chip, all ...write) (api.Command, bool) {
	t.Helper()
	for i, w := range all {
		x, ok := c.Write(w.addr, w.b)
		if i == len(all)-1 {
			return x, ok
		}
		if ok || x != (api.Command{}) {
			t.Fatal(i, x)
		}
	}
	return api.Command{}, false
}

// quiet writes what is no command.
func quiet(t *testing.T, c *flash.Chip, all ...write) {
	t.Helper()
	if x, ok := send(t, c, all...); ok || x != (api.Command{}) {
		t.Fatal(x)
	}
}

func unlocked(more ...write) []write {
	return append([]write{{0x5555, 0xAA}, {0x2AAA, 0x55}}, more...)
}

func TestBlank(t *testing.T) {
	for _, x := range []struct{ n, want int }{{0, 0}, {-1, 0}, {math.MinInt, 0}, {1, 1}, {65536, 65536}, {131072, 131072}, {131073, 131072}, {math.MaxInt, 131072}} {
		if s := flash.Blank(x.n); s != strings.Repeat("\xFF", x.want) {
			t.Fatal(x.n, len(s))
		}
	}
}

func TestNew(t *testing.T) {
	for _, n := range []int{0, 1, 65535, 65537, 131071} {
		if c, e := flash.New(flash.Blank(n)); c != nil || e != api.ErrArg {
			t.Fatal(n, e)
		}
	}
	if c, e := flash.New(flash.Blank(131072) + "x"); c != nil || e != api.ErrArg {
		t.Fatal(e)
	}
	image := "abc" + strings.Repeat("q", 65533)
	c := chip(t, image)
	if c.Image() != image || c.Read(0) != 'a' || c.Read(1) != 'b' || c.Read(0x10002) != 'c' {
		t.Fatal()
	}
}

func TestProgramAndsTheBits(t *testing.T) {
	c := chip(t, flash.Blank(65536))
	x, ok := send(t, c, unlocked(write{0x5555, 0xA0}, write{0x0123, 0x5A})...)
	if !ok || x != (api.Command{Kind: api.CmdPut, Addr: 0x123, Data: "\x5A"}) || c.Read(0x123) != 0x5A {
		t.Fatal(x, ok)
	}
	x, ok = send(t, c, unlocked(write{0x5555, 0xA0}, write{0xABC0123, 0xF0})...)
	if !ok || x.Data != "\x50" || x.Addr != 0x123 || c.Read(0x123) != 0x50 || c.Read(0x124) != 0xFF {
		t.Fatal(x, ok)
	}
	// What would be a command elsewhere is a byte here.
	x, ok = send(t, c, unlocked(write{0x5555, 0xA0}, write{0x5555, 0xAA})...)
	if !ok || x != (api.Command{Kind: api.CmdPut, Addr: 0x5555, Data: "\xAA"}) {
		t.Fatal(x, ok)
	}
	quiet(t, c, write{0x5556, 0})
	if c.Read(0x5556) != 0xFF {
		t.Fatal("programmed without a sequence")
	}
}

func TestErasures(t *testing.T) {
	image := strings.Repeat("\x00", 131072)
	c := chip(t, image)
	begin := unlocked(write{0x5555, 0x80}, write{0x5555, 0xAA}, write{0x2AAA, 0x55})
	x, ok := send(t, c, append(begin, write{0xFFFFFABC, 0x30})...)
	if !ok || x != (api.Command{Kind: api.CmdErase, Addr: 0xF000}) {
		t.Fatal(x, ok)
	}
	image, _ = seal.Apply(image, x)
	if c.Image() != image {
		t.Fatal()
	}
	quiet(t, c, unlocked(write{0x5555, 0xB0}, write{0, 0xFF})...)
	x, ok = send(t, c, append(begin, write{0x1000, 0x30})...)
	if !ok || x != (api.Command{Kind: api.CmdErase, Addr: 0x11000}) {
		t.Fatal(x, ok)
	}
	image, _ = seal.Apply(image, x)
	if c.Image() != image {
		t.Fatal()
	}
	x, ok = send(t, c, append(begin, write{0x5555, 0x30})...)
	if !ok || x != (api.Command{Kind: api.CmdErase, Addr: 0x15000}) {
		t.Fatal(x, ok)
	}
	quiet(t, c, append(begin, write{0x5554, 0x10})...)
	x, ok = send(t, c, append(begin, write{0x15555, 0x10})...)
	if !ok || x != (api.Command{Kind: api.CmdBlank}) || c.Image() != flash.Blank(131072) {
		t.Fatal(x, ok)
	}
}

func TestIDs(t *testing.T) {
	for _, x := range []struct {
		n    int
		a, b byte
	}{{65536, 0x32, 0x1B}, {131072, 0x62, 0x13}} {
		show := unlocked(write{0x5555, 0x90})
		for _, hide := range [][]write{{{0x1234, 0xF0}}, unlocked(write{0x5555, 0xF0})} {
			c := chip(t, strings.Repeat("m", x.n))
			quiet(t, c, show...)
			if c.Read(0) != x.a || c.Read(1) != x.b || c.Read(2) != 'm' || c.Read(0x10000) != x.a || c.Read(0xFFFF0001) != x.b {
				t.Fatal()
			}
			if c.Image() != strings.Repeat("m", x.n) {
				t.Fatal("the IDs are no memory")
			}
			send(t, c, unlocked(write{0x5555, 0xA0}, write{0, 0x0F})...)
			if c.Read(0) != x.a {
				t.Fatal("still shown")
			}
			quiet(t, c, hide...)
			if c.Read(0) != 'm'&0x0F || c.Read(1) != 'm' {
				t.Fatal()
			}
		}
		// F0 in the midst of a sequence ends it alone.
		c := chip(t, strings.Repeat("m", x.n))
		quiet(t, c, show...)
		quiet(t, c, write{0x5555, 0xAA}, write{0, 0xF0})
		if c.Read(0) != x.a {
			t.Fatal()
		}
		quiet(t, c, write{0, 0xF0})
		if c.Read(0) != 'm' {
			t.Fatal()
		}
	}
}

func TestBanks(t *testing.T) {
	image := strings.Repeat("a", 65536) + strings.Repeat("b", 65536)
	c := chip(t, image)
	bank := func(addr uint32, b byte) { quiet(t, c, unlocked(write{0x5555, 0xB0}, write{addr, b})...) }
	for _, x := range []struct {
		addr uint32
		b    byte
		want byte
	}{{0, 1, 'b'}, {1, 0, 'b'}, {0, 2, 'a'}, {0x10000, 3, 'b'}, {0x10001, 0, 'b'}, {0, 0xFE, 'a'}} {
		if bank(x.addr, x.b); c.Read(9) != x.want {
			t.Fatal(x)
		}
	}
	bank(0, 1)
	x, ok := send(t, c, unlocked(write{0x5555, 0xA0}, write{5, 0})...)
	if !ok || x.Addr != 65541 {
		t.Fatal(x)
	}
	c = chip(t, image[:65536])
	bank(0, 1)
	if c.Read(9) != 'a' {
		t.Fatal("a chip of one bank")
	}
	x, ok = send(t, c, unlocked(write{0x5555, 0xA0}, write{5, 0})...)
	if !ok || x.Addr != 5 {
		t.Fatal(x)
	}
}

func TestNoChip(t *testing.T) {
	var c *flash.Chip
	if x, ok := c.Write(0, 0); ok || x != (api.Command{}) || c.Read(0) != 0xFF || c.Image() != "" {
		t.Fatal()
	}
}

// model is the chapter's table, row by row.
type model struct {
	image string
	state string
	bank  int
	shown bool
}

func (m *model) write(addr uint32, b byte) (api.Command, bool) {
	addr &= 0xFFFF
	at := m.bank*65536 + int(addr)
	was := m.state
	m.state = "ready"
	var x api.Command
	switch {
	case was == "ready" && addr == 0x5555 && b == 0xAA:
		m.state = "first"
	case was == "ready" && b == 0xF0:
		m.shown = false
	case was == "first" && addr == 0x2AAA && b == 0x55:
		m.state = "second"
	case was == "second" && addr == 0x5555 && b == 0x90:
		m.shown = true
	case was == "second" && addr == 0x5555 && b == 0xF0:
		m.shown = false
	case was == "second" && addr == 0x5555 && b == 0x80:
		m.state = "erase1"
	case was == "second" && addr == 0x5555 && b == 0xA0:
		m.state = "program"
	case was == "second" && addr == 0x5555 && b == 0xB0:
		m.state = "bank"
	case was == "program":
		x = api.Command{Kind: api.CmdPut, Addr: at, Data: string([]byte{m.image[at] & b})}
	case was == "bank" && addr == 0 && len(m.image) == 131072:
		m.bank = int(b & 1)
	case was == "erase1" && addr == 0x5555 && b == 0xAA:
		m.state = "erase2"
	case was == "erase2" && addr == 0x2AAA && b == 0x55:
		m.state = "erase"
	case was == "erase" && addr == 0x5555 && b == 0x10:
		x = api.Command{Kind: api.CmdBlank}
	case was == "erase" && b == 0x30:
		x = api.Command{Kind: api.CmdErase, Addr: at / 4096 * 4096}
	}
	if x.Kind == 0 {
		return x, false
	}
	m.image, _ = seal.Apply(m.image, x)
	return x, true
}

func TestAgainstTheTable(t *testing.T) {
	for seed := range 20 {
		r := rand.New(rand.NewSource(int64(seed)))
		b := make([]byte, 65536*(1+seed%2))
		r.Read(b)
		c, m := chip(t, string(b)), &model{image: string(b), state: "ready"}
		steps := [][]write{
			{{0x5555, 0xAA}}, {{0x2AAA, 0x55}}, {{0x5555, 0x90}}, {{0x5555, 0x80}}, {{0x5555, 0xA0}}, {{0x5555, 0xB0}}, {{0x5555, 0xF0}},
			{{0x5555, 0x10}}, {{0, 1}}, {{0x3000, 0x30}}, {{0x5555, 0x30}}, unlocked(), unlocked(), unlocked(write{0x5555, 0x80}, write{0x5555, 0xAA}, write{0x2AAA, 0x55}),
		}
		for range 400 {
			all := steps[r.Intn(len(steps))]
			if r.Intn(6) == 0 {
				all = []write{{r.Uint32(), byte(r.Uint32())}}
			}
			for _, w := range all {
				addr := w.addr | r.Uint32()<<16
				x, ok := c.Write(addr, w.b)
				y, want := m.write(addr, w.b)
				if x != y || ok != want {
					t.Fatal(seed, w, x, y)
				}
			}
			at := r.Uint32()
			if !(m.shown && at&0xFFFF < 2) && c.Read(at) != m.image[m.bank*65536+int(at&0xFFFF)] {
				t.Fatal(seed)
			}
		}
		if c.Image() != m.image {
			t.Fatal(seed)
		}
	}
}
