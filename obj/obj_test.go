package obj_test

import (
	"math"
	"math/rand"
	"testing"

	"cameo/bg"
	"cameo/obj"
)

func byteAt(m []byte, at int) int {
	if at < 0 || at >= len(m) {
		return 0
	}
	return int(m[at])
}

func halfAt(m []byte, at int) int {
	if at < 0 || at+1 >= len(m) {
		return 0
	}
	return int(m[at]) + 256*int(m[at+1])
}

func signed(x int) int {
	if x >= 32768 {
		x -= 65536
	}
	return x
}

func floorDiv(x, n int) int {
	q := x / n
	if x%n != 0 && x < 0 {
		q--
	}
	return q
}

var sizes = [3][4][2]int{
	{{8, 8}, {16, 16}, {32, 32}, {64, 64}},
	{{16, 8}, {32, 8}, {32, 16}, {64, 32}},
	{{8, 16}, {8, 32}, {16, 32}, {32, 64}},
}

// draw goes sprite by sprite and pixel by pixel, by the chapter's words.
func draw(s *bg.Scene, line int) obj.Row {
	var row obj.Row
	for x := range row.Dots {
		row.Dots[x].Colour = bg.None
	}
	if s == nil || s.Control>>12%2 == 0 || s.Control>>7%2 == 1 || line < 0 || line > 159 {
		return row
	}
	cycles := 1210
	if s.Control>>5%2 == 1 {
		cycles = 954
	}
	for i := range 128 {
		a, b, c := halfAt(s.Oam, 8*i), halfAt(s.Oam, 8*i+2), halfAt(s.Oam, 8*i+4)
		affine, nine := a>>8%2 == 1, a>>9%2 == 1
		if !affine && nine || a>>10%4 == 3 || a>>14 == 3 {
			continue
		}
		w, h := sizes[a>>14][b>>14][0], sizes[a>>14][b>>14][1]
		bw, bh := w, h
		if affine && nine {
			bw, bh = 2*w, 2*h
		}
		top, left := a%256, b%512
		if top >= 160 {
			top -= 256
		}
		if left >= 256 {
			left -= 512
		}
		if line < top || line >= top+bh {
			continue
		}
		cost := bw
		if affine {
			cost = 2*bw + 10
		}
		if cost > cycles {
			break
		}
		cycles -= cost
		for x := range 240 {
			if x < left || x >= left+bw {
				continue
			}
			mx, my := x, line
			if a>>12%2 == 1 {
				mx = max(x-x%(int(s.Mosaic>>8%16)+1), left)
				my = max(line-line%(int(s.Mosaic>>12)+1), top)
			}
			px, py := mx-left, my-top
			if affine {
				n := b >> 9 % 32
				p := func(k int) int { return signed(halfAt(s.Oam, 32*n+6+8*k)) }
				dx, dy := px-bw/2, py-bh/2
				px = w/2 + floorDiv(p(0)*dx+p(1)*dy, 256)
				py = h/2 + floorDiv(p(2)*dx+p(3)*dy, 256)
			} else {
				if b>>12%2 == 1 {
					px = w - 1 - px
				}
				if b>>13%2 == 1 {
					py = h - 1 - py
				}
			}
			col := colour(s, a, c, px, py, w, h)
			if col < 0 {
				continue
			}
			if a>>10%4 == 2 {
				row.Window[x] = true
				continue
			}
			d := &row.Dots[x]
			if prio := c >> 10 % 4; d.Colour == bg.None || prio < d.Prio {
				*d = obj.Dot{Colour: uint16(col), Prio: prio, Semi: a>>10%4 == 1}
			}
		}
	}
	return row
}

func colour(s *bg.Scene, a, c, x, y, w, h int) int {
	if x < 0 || y < 0 || x >= w || y >= h {
		return -1
	}
	tile, big := c%1024, a>>13%2 == 1
	each := 1
	if big {
		each = 2
		tile -= tile % 2
	}
	row := 32
	if s.Control>>6%2 == 1 {
		row = w / 8 * each
	}
	tile = (tile + y/8*row + x/8*each) % 1024
	if s.Control%8 >= 3 && tile < 512 {
		return -1
	}
	at := 0x10000 + 32*tile
	n := 0
	if big {
		n = byteAt(s.Vram, at+y%8*8+x%8)
		if n == 0 {
			return -1
		}
	} else {
		n = byteAt(s.Vram, at+y%8*4+x%8/2) >> (4 * (x % 2)) % 16
		if n == 0 {
			return -1
		}
		n += c >> 12 * 16
	}
	return halfAt(s.Pal, 2*(256+n)) % 32768
}

func randomScene(r *rand.Rand) *bg.Scene {
	s := &bg.Scene{Control: uint16(r.Uint32())&^0x80 | 0x1000, Mosaic: uint16(r.Uint32())}
	s.Vram, s.Pal, s.Oam = make([]byte, 98304), make([]byte, 1024), make([]byte, 1024)
	r.Read(s.Vram)
	r.Read(s.Pal)
	r.Read(s.Oam)
	for k := range s.Vram {
		if s.Vram[k]&0x30 == 0 {
			s.Vram[k] = 0
		}
	}
	if r.Intn(3) > 0 { // few sprites, of which all are drawn
		for i := range 128 {
			if r.Intn(12) > 0 {
				s.Oam[8*i+1] = 0x0C
			}
		}
	}
	for n := range 32 { // hardly turned
		if r.Intn(4) > 0 {
			for k := range 4 {
				x := r.Intn(1000) - 500
				s.Oam[32*n+6+8*k], s.Oam[32*n+7+8*k] = byte(x), byte(x>>8)
			}
		}
	}
	if r.Intn(8) == 0 {
		s.Vram, s.Pal, s.Oam = s.Vram[:r.Intn(98304)], s.Pal[:r.Intn(1024)], s.Oam[:r.Intn(1024)]
	}
	return s
}

func TestDraw(t *testing.T) {
	dots := 0
	for seed := range 800 {
		r := rand.New(rand.NewSource(int64(seed)))
		s := randomScene(r)
		for range 8 {
			line := r.Intn(160)
			got, want := obj.Draw(s, line), draw(s, line)
			for x := range 240 {
				if got.Dots[x] != want.Dots[x] || got.Window[x] != want.Window[x] {
					t.Fatalf("%d: %d, %d: %v %v, want %v %v", seed, x, line, got.Dots[x], got.Window[x], want.Dots[x], want.Window[x])
				}
				if got.Dots[x].Colour != bg.None {
					dots++
				}
			}
		}
	}
	if dots < 10000 {
		t.Fatal("hardly anything was drawn", dots)
	}
}

func empty(t *testing.T, row obj.Row) {
	t.Helper()
	for x, d := range row.Dots {
		if d != (obj.Dot{Colour: bg.None}) || row.Window[x] {
			t.Fatal(x, d)
		}
	}
}

func plain(control uint16) *bg.Scene {
	s := &bg.Scene{Control: control, Vram: make([]byte, 98304), Pal: make([]byte, 1024), Oam: make([]byte, 1024)}
	for k := range s.Vram {
		s.Vram[k] = 0x11
	}
	for k := range 512 {
		s.Pal[2*k], s.Pal[2*k+1] = byte(k), byte(k>>8)
	}
	for i := range 128 {
		s.Oam[8*i+1] = 2 // not shown
	}
	return s
}

func set(s *bg.Scene, i int, a, b, c uint16) {
	for k, x := range []uint16{a, b, c} {
		s.Oam[8*i+2*k], s.Oam[8*i+2*k+1] = byte(x), byte(x>>8)
	}
}

func TestTheExample(t *testing.T) {
	s := plain(0x1000)
	set(s, 0, 0, 0, 0)
	row := obj.Draw(s, 0)
	for x, d := range row.Dots {
		want := obj.Dot{Colour: bg.None}
		if x < 8 {
			want = obj.Dot{Colour: 257}
		}
		if d != want {
			t.Fatal(x, d)
		}
	}
	empty(t, obj.Draw(s, 8))
}

func TestNothingDrawn(t *testing.T) {
	s := plain(0x1000)
	set(s, 0, 0, 0, 0)
	for _, line := range []int{-1, 160, 256, math.MaxInt, math.MinInt} {
		empty(t, obj.Draw(s, line))
	}
	for _, c := range []uint16{0, 0x1080, 0x0F00} {
		s.Control = c
		empty(t, obj.Draw(s, 0))
	}
	empty(t, obj.Draw(nil, 0))
	empty(t, obj.Draw(&bg.Scene{Control: 0x1000}, 0))
	s.Control = 0x1000
	for _, a := range []uint16{0x0200, 0x0C00, 0xC000, 0x0D00} {
		set(s, 0, a, 0, 0)
		empty(t, obj.Draw(s, 0))
	}
}

// count tells how many pixels have a color.
func count(row obj.Row) int {
	n := 0
	for _, d := range row.Dots {
		if d.Colour != bg.None {
			n++
		}
	}
	return n
}

// Sprites 64 wide take 64 of 1210 cycles each, turned ones 138, doubled ones 266.
func TestCyclesRunOut(t *testing.T) {
	for _, x := range []struct {
		control, a uint16
		want       int
	}{{0x1000, 0, 18}, {0x1020, 0, 14}, {0x1000, 0x100, 8}, {0x1020, 0x100, 6}, {0x1000, 0x300, 4}, {0x1020, 0x300, 3}} {
		s := plain(x.control)
		for i := range 30 {
			set(s, 2*i, x.a, 0xC000|uint16(200), uint16(i%4)<<10) // off the picture they take theirs too
		}
		for i := range 30 {
			at := 300
			if i == x.want-1 {
				at = 0
			}
			set(s, 2*i, x.a, 0xC000|uint16(at), 0)
		}
		for n := range 4 {
			s.Oam[8*n+6] = 0
		}
		s.Oam[7], s.Oam[31] = 1, 1
		if n := count(obj.Draw(s, 40)); n == 0 {
			t.Fatal("the last one that fits is drawn", x)
		}
		set(s, 2*(x.want-1), x.a, 0xC000|300, 0)
		set(s, 2*x.want, x.a, 0xC000, 0)
		if n := count(obj.Draw(s, 40)); n != 0 {
			t.Fatal("the first one that doesn't fit isn't drawn", x)
		}
		set(s, 2*x.want+1, 0, 0, 0) // a small one behind it would fit
		if n := count(obj.Draw(s, 0)); n != 0 {
			t.Fatal("nor is any after it", x)
		}
	}
}

func TestPriorities(t *testing.T) {
	s := plain(0x1000)
	set(s, 3, 0, 0, 2<<10|1<<12)
	set(s, 5, 0x400, 4, 2<<10|2<<12)
	set(s, 9, 0, 2, 1<<10|3<<12)
	row := obj.Draw(s, 0)
	for x, want := range []obj.Dot{{273, 2, false}, {273, 2, false}, {305, 1, false}, {305, 1, false}, {305, 1, false}, {305, 1, false}, {305, 1, false}, {305, 1, false}, {305, 1, false}, {305, 1, false}, {289, 2, true}, {289, 2, true}, {bg.None, 0, false}} {
		if row.Dots[x] != want {
			t.Fatal(x, row.Dots[x], want)
		}
	}
	set(s, 0, 0x800, 1, 0)
	row = obj.Draw(s, 0)
	for x := range 12 {
		if row.Window[x] != (x >= 1 && x < 9) {
			t.Fatal(x)
		}
	}
	if row.Dots[1].Colour != 273 {
		t.Fatal("a window hides nothing")
	}
}

func TestBitmapModesHaveHalfTheTiles(t *testing.T) {
	for mode := range uint16(8) {
		s := plain(0x1000 | mode)
		set(s, 0, 0, 0, 511)
		set(s, 1, 0, 8, 512)
		want := 16
		if mode >= 3 {
			want = 8
		}
		if n := count(obj.Draw(s, 0)); n != want {
			t.Fatal(mode, n)
		}
	}
}

func BenchmarkDraw(b *testing.B) {
	s := randomScene(rand.New(rand.NewSource(4)))
	for range b.N {
		obj.Draw(s, 50)
	}
}
