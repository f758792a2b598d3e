package mix_test

import (
	"math"
	"math/rand"
	"testing"

	"cameo/bg"
	"cameo/mix"
	"cameo/obj"
)

func within(word uint16, at int) bool {
	from, to := int(word)/256, int(word)%256
	if from > to {
		return at >= from || at < to
	}
	return from <= at && at < to
}

func shows(r *mix.Regs, control uint16, x, line int, sprites bool) int {
	in := func(i int) bool {
		return control>>(13+i)%2 == 1 && within(r.WinV[i], line) && within(r.WinH[i], x)
	}
	switch {
	case control>>13 == 0:
		return 63
	case in(0):
		return int(r.In) % 64
	case in(1):
		return int(r.In) / 256 % 64
	case control>>15 == 1 && sprites:
		return int(r.Out) / 256 % 64
	}
	return int(r.Out) % 64
}

func randomRegs(r *rand.Rand) *mix.Regs {
	w := func() uint16 { return uint16(r.Uint32()) }
	x := &mix.Regs{WinH: [2]uint16{w(), w()}, WinV: [2]uint16{w(), w()}, In: w(), Out: w(), Blend: w(), Alpha: w(), Bright: w()}
	if r.Intn(3) == 0 {
		x.In, x.Out = 0x3F3F, 0x3F3F
	}
	return x
}

func TestShows(t *testing.T) {
	r := rand.New(rand.NewSource(1))
	for range 200000 {
		g, control := randomRegs(r), uint16(r.Uint32())
		x, line, sprites := r.Intn(260)-10, r.Intn(260)-10, r.Intn(2) == 0
		if r.Intn(4) == 0 {
			x, line = int(g.WinH[0]>>8), int(g.WinV[0]&255) // on the edges
		}
		if r.Intn(9) == 0 {
			g.WinH[0] = g.WinH[0]&0xFF | g.WinH[0]<<8
		}
		if got := g.Shows(control, x, line, sprites); got != shows(g, control, x, line, sprites) {
			t.Fatal(*g, control, x, line, sprites, got)
		}
	}
	var none *mix.Regs
	if none.Shows(0xFFFF, 0, 0, true) != 63 {
		t.Fatal()
	}
	g := &mix.Regs{}
	g.Shows(0xFFFF, math.MaxInt, math.MinInt, true)
	if g.Shows(0x1FFF, 0, 0, true) != 63 || g.Shows(0x2000, 0, 0, true) != 0 {
		t.Fatal()
	}
}

func each(f func(i int) int) uint16 { return uint16(f(0) + f(1)*32 + f(2)*1024) }

func part(c uint16, i int) int { return int(c) >> (5 * i) % 32 }

func alpha(a, b, of uint16) uint16 {
	n, m := min(int(of)%32, 16), min(int(of)/256%32, 16)
	return each(func(i int) int { return min((part(a, i)*n+part(b, i)*m)/16, 31) })
}

func bright(a, by uint16, dark bool) uint16 {
	n := min(int(by)%32, 16)
	return each(func(i int) int {
		p := part(a, i)
		if dark {
			return p - p*n/16
		}
		return p + (31-p)*n/16
	})
}

func TestColours(t *testing.T) {
	r := rand.New(rand.NewSource(2))
	for range 200000 {
		a, b, w := uint16(r.Uint32()), uint16(r.Uint32()), uint16(r.Uint32())
		if mix.Alpha(a, b, w) != alpha(a, b, w) || mix.Bright(a, w, true) != bright(a, w, true) || mix.Bright(a, w, false) != bright(a, w, false) {
			t.Fatal(a, b, w)
		}
	}
	if mix.Alpha(0x1F, 0x1F, 0x0808) != 0x1F || mix.Bright(0, 0x10, false) != 0x7FFF || mix.Bright(0x7FFF, 0x1F, true) != 0 || mix.Alpha(0x1F, 0x1F, 0x1F1F) != 0x1F {
		t.Fatal()
	}
}

type dot struct {
	colour      uint16
	layer, prio int
	semi        bool
}

// pixel sorts all layers of one pixel.
func pixel(s *bg.Scene, r *mix.Regs, x, line int, row obj.Row, lines [4]bg.Line) uint16 {
	sees := shows(r, s.Control, x, line, row.Window[x])
	var all []dot
	if d := row.Dots[x]; sees&16 != 0 && d.Colour != bg.None {
		all = append(all, dot{d.Colour, 4, d.Prio, d.Semi})
	}
	for i := range 4 {
		if c := lines[i][x]; sees>>i%2 == 1 && s.Shown(i) && c != bg.None {
			all = append(all, dot{c, i, int(s.Bg[i] % 4), false})
		}
	}
	for i := range all { // a plain sort that leaves the equal ones in their order
		for k := len(all) - 1; k > i; k-- {
			if all[k].prio < all[k-1].prio {
				all[k], all[k-1] = all[k-1], all[k]
			}
		}
	}
	back := dot{colour: s.Colour(0), layer: 5}
	all = append(all, back, back)
	up, low := all[0], all[1]
	first, second := r.Blend>>up.layer%2 == 1, r.Blend>>(8+low.layer)%2 == 1
	switch {
	case up.semi && second:
		return alpha(up.colour, low.colour, r.Alpha)
	case sees&32 == 0 || !first || r.Blend>>6%4 == 0:
		return up.colour
	case r.Blend>>6%4 == 1:
		if second {
			return alpha(up.colour, low.colour, r.Alpha)
		}
		return up.colour
	}
	return bright(up.colour, r.Bright, r.Blend>>6%4 == 3)
}

func randomScene(r *rand.Rand) *bg.Scene {
	s := &bg.Scene{Control: uint16(r.Uint32())&^0x80 | 0x1000, Mosaic: uint16(r.Uint32())}
	if r.Intn(2) == 0 {
		s.Control |= 0x0F00
	}
	s.Vram, s.Pal, s.Oam = make([]byte, 98304), make([]byte, 1024), make([]byte, 1024)
	r.Read(s.Vram)
	r.Read(s.Pal)
	r.Read(s.Oam)
	for k := range s.Vram {
		if k%7 < 4 {
			s.Vram[k] = 0
		}
	}
	for i := range 4 {
		s.Bg[i] = uint16(r.Uint32())
	}
	s.Par = [2][4]int16{{256, 0, 0, 256}, {256, 9, -9, 256}}
	return s
}

func TestLine(t *testing.T) {
	for seed := range 1500 {
		r := rand.New(rand.NewSource(int64(seed)))
		s, g := randomScene(r), randomRegs(r)
		for range 3 {
			line := r.Intn(160)
			row := obj.Draw(s, line)
			var lines [4]bg.Line
			for i := range lines {
				lines[i] = s.Draw(i, line)
			}
			got := mix.Line(s, g, line)
			for x := range 240 {
				if want := pixel(s, g, x, line, row, lines); got[x] != want {
					t.Fatalf("%d: %d, %d: %04x, want %04x", seed, x, line, got[x], want)
				}
			}
		}
	}
}

func TestNoLine(t *testing.T) {
	r := rand.New(rand.NewSource(3))
	s, g := randomScene(r), randomRegs(r)
	white := func(l [240]uint16) {
		t.Helper()
		for x, c := range l {
			if c != 0x7FFF {
				t.Fatal(x, c)
			}
		}
	}
	white(mix.Line(nil, g, 0))
	white(mix.Line(s, nil, 0))
	for _, line := range []int{-1, 160, math.MaxInt, math.MinInt} {
		white(mix.Line(s, g, line))
	}
	s.Control |= 0x80
	white(mix.Line(s, g, 0))
	if l := mix.Line(&bg.Scene{Pal: []byte{0x34, 0x92}}, &mix.Regs{}, 0); l[0] != 0x1234 || l[239] != 0x1234 {
		t.Fatal(l[0])
	}
}

func BenchmarkLine(b *testing.B) {
	r := rand.New(rand.NewSource(4))
	s, g := randomScene(r), randomRegs(r)
	s.Control = 0x1F00
	for range b.N {
		mix.Line(s, g, 50)
	}
}
