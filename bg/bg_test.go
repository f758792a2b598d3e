package bg_test

import (
	"math"
	"math/rand"
	"testing"

	"cameo/bg"
)

func byteAt(m []byte, at int) int {
	if at < 0 || at >= len(m) {
		return 0
	}
	return int(m[at])
}

func halfAt(m []byte, at int) int {
	if at < 0 || at+1 >= len(m) {
		return 0
	}
	return int(m[at]) + 256*int(m[at+1])
}

func colour(s *bg.Scene, n int) uint16 { return uint16(halfAt(s.Pal, 2*n) % 32768) }

func mod(x, n int) int { return ((x % n) + n) % n }

func floorDiv(x, n int) int { return (x - mod(x, n)) / n }

// exists: which backgrounds the modes have.
var exists = [8][4]byte{{'t', 't', 't', 't'}, {'t', 't', 'a', 0}, {0, 0, 'a', 'a'}, {0, 0, 'b', 0}, {0, 0, 'b', 0}, {0, 0, 'b', 0}}

func shown(s *bg.Scene, i int) bool {
	return i >= 0 && i < 4 && exists[s.Control%8][i] != 0 && s.Control>>(8+i)%2 == 1 && s.Control>>7%2 == 0
}

// pixel draws one pixel by the chapter's words.
func pixel(s *bg.Scene, i, x, line int) uint16 {
	if !shown(s, i) || line < 0 || line > 159 {
		return bg.None
	}
	c := int(s.Bg[i])
	w, h := 1, 1
	if c>>6%2 == 1 {
		w, h = int(s.Mosaic%16)+1, int(s.Mosaic>>4%16)+1
	}
	x -= x % w
	tiles, table := 0x4000*(c>>2%4), 0x800*(c>>8%32)
	if exists[s.Control%8][i] == 't' {
		return text(s, i, x, line-line%h, c, tiles, table)
	}
	p, r := s.Par[i-2], s.Ref[i-2]
	px := floorDiv(int(int32(int(r[0])+x*int(p[0])-line%h*int(p[1]))), 256)
	py := floorDiv(int(int32(int(r[1])+x*int(p[2])-line%h*int(p[3]))), 256)
	if exists[s.Control%8][i] == 'a' {
		return affine(s, px, py, c, tiles, table)
	}
	return bitmap(s, px, py)
}

func text(s *bg.Scene, i, x, y, c, tiles, table int) uint16 {
	width, height := 256+256*(c>>14%2), 256+256*(c>>15%2)
	px := (x + int(s.X[i]%512)) % width
	py := (y + int(s.Y[i]%512)) % height
	block := py/256*(width/256) + px/256
	e := halfAt(s.Vram, table+0x800*block+2*(py%256/8*32+px%256/8))
	tx, ty := px%8, py%8
	if e>>10%2 == 1 {
		tx = 7 - tx
	}
	if e>>11%2 == 1 {
		ty = 7 - ty
	}
	n, at := 0, 0
	if c>>7%2 == 1 {
		at = tiles + e%1024*64 + ty*8 + tx
		n = byteAt(s.Vram, at)
	} else {
		at = tiles + e%1024*32 + ty*4 + tx/2
		n = byteAt(s.Vram, at) >> (4 * (tx % 2)) % 16
	}
	if n == 0 || at >= 0x10000 {
		return bg.None
	}
	if c>>7%2 == 0 {
		n += 16 * (e >> 12)
	}
	return colour(s, n)
}

func affine(s *bg.Scene, x, y, c, tiles, table int) uint16 {
	size := []int{128, 256, 512, 1024}[c>>14%4]
	if c>>13%2 == 1 {
		x, y = mod(x, size), mod(y, size)
	}
	if x < 0 || y < 0 || x >= size || y >= size {
		return bg.None
	}
	at := tiles + 64*byteAt(s.Vram, table+y/8*(size/8)+x/8) + y%8*8 + x%8
	n := byteAt(s.Vram, at)
	if n == 0 || at >= 0x10000 {
		return bg.None
	}
	return colour(s, n)
}

func bitmap(s *bg.Scene, x, y int) uint16 {
	mode := s.Control % 8
	w, h, base := 240, 160, 0
	if mode == 5 {
		w, h = 160, 128
	}
	if mode > 3 && s.Control>>4%2 == 1 {
		base = 0xA000
	}
	if x < 0 || y < 0 || x >= w || y >= h {
		return bg.None
	}
	if mode == 4 {
		n := byteAt(s.Vram, base+y*w+x)
		if n == 0 {
			return bg.None
		}
		return colour(s, n)
	}
	return uint16(halfAt(s.Vram, base+2*(y*w+x)) % 32768)
}

func randomScene(r *rand.Rand) *bg.Scene {
	s := &bg.Scene{Control: uint16(r.Uint32()), Mosaic: uint16(r.Uint32())}
	if r.Intn(3) > 0 {
		s.Control = s.Control&^0x80 | 0x0F00
	}
	s.Vram, s.Pal, s.Oam = make([]byte, 98304), make([]byte, 1024), make([]byte, 1024)
	if r.Intn(8) == 0 {
		s.Vram, s.Pal = s.Vram[:r.Intn(98304)], s.Pal[:r.Intn(1024)]
	}
	r.Read(s.Vram)
	r.Read(s.Pal)
	for k := range s.Vram { // some pixels and numbers 0
		if s.Vram[k]&0x30 == 0 {
			s.Vram[k] = 0
		}
	}
	for i := range 4 {
		s.Bg[i], s.X[i], s.Y[i] = uint16(r.Uint32()), uint16(r.Uint32()), uint16(r.Uint32())
	}
	for k := range 2 {
		for n := range 4 {
			s.Par[k][n] = int16(r.Intn(1200) - 600)
			if r.Intn(9) == 0 {
				s.Par[k][n] = int16(r.Uint32())
			}
		}
		for n := range 2 {
			s.Ref[k][n] = int32(r.Intn(200000) - 100000)
			if r.Intn(9) == 0 {
				s.Ref[k][n] = int32(r.Uint32())
			}
		}
		if r.Intn(3) == 0 {
			s.Par[k] = [4]int16{256, 0, 0, 256}
			s.Ref[k] = [2]int32{int32(r.Intn(4096)), int32(r.Intn(4096))}
		}
	}
	return s
}

func TestDraw(t *testing.T) {
	for seed := range 1200 {
		r := rand.New(rand.NewSource(int64(seed)))
		s := randomScene(r)
		for range 6 {
			line := r.Intn(160)
			for i := range 4 {
				got := s.Draw(i, line)
				for x := range 240 {
					if want := pixel(s, i, x, line); got[x] != want {
						t.Fatalf("%d: background %d, %d, %d: %04x, want %04x", seed, i, x, line, got[x], want)
					}
				}
			}
		}
	}
}

func TestShown(t *testing.T) {
	for c := range 1 << 12 {
		s := &bg.Scene{Control: uint16(c)}
		if s.Mode() != c%8 {
			t.Fatal(c)
		}
		for i := -2; i < 7; i++ {
			if s.Shown(i) != shown(s, i) {
				t.Fatal(c, i)
			}
		}
		if s.Shown(math.MaxInt) || s.Shown(math.MinInt) {
			t.Fatal()
		}
	}
}

func TestColour(t *testing.T) {
	s := &bg.Scene{Pal: []byte{1, 0x82, 3, 0x7F, 5}}
	for n, want := range map[int]uint16{0: 0x0201, 1: 0x7F03, 2: 0, 3: 0, -1: 0, math.MaxInt: 0, math.MinInt: 0, math.MinInt / 2: 0, 1 << 62: 0} {
		if c := s.Colour(n); c != want {
			t.Fatalf("%d %04x", n, c)
		}
	}
}

func all(t *testing.T, l bg.Line, want uint16) {
	t.Helper()
	for x, c := range l {
		if c != want {
			t.Fatalf("%d %04x", x, c)
		}
	}
}

func TestExamplesAndNoLine(t *testing.T) {
	s := &bg.Scene{Control: 0x0403, Vram: []byte{0xFF, 0xFF}}
	s.Par[0] = [4]int16{256, 0, 0, 256}
	if l := s.Draw(2, 0); l[0] != 0x7FFF || l[1] != 0 {
		t.Fatal(l[0])
	}
	for _, line := range []int{-1, 160, math.MaxInt, math.MinInt} {
		all(t, s.Draw(2, line), bg.None)
	}
	for _, i := range []int{-1, 0, 1, 3, 4, math.MaxInt} {
		all(t, s.Draw(i, 0), bg.None)
	}
	s = &bg.Scene{Control: 0x0100, Vram: make([]byte, 98304)}
	all(t, s.Draw(0, 0), bg.None)
	var none *bg.Scene
	if none.Colour(0) != 0 || none.Mode() != 0 || none.Shown(0) {
		t.Fatal()
	}
	all(t, none.Draw(0, 0), bg.None)
	all(t, (&bg.Scene{Control: 0x0F00}).Draw(0, 0), bg.None)
}

// A tile of which a byte lies at 10000 or above has no pixels there.
func TestTilesEnd(t *testing.T) {
	s := &bg.Scene{Control: 0x0100, Vram: make([]byte, 98304), Pal: make([]byte, 1024)}
	for k := range s.Vram {
		s.Vram[k] = 0x11
	}
	s.Pal[2] = 5
	s.Bg[0] = 0x0C                    // tiles at C000: 512 of them end at 10000
	s.Vram[0], s.Vram[1] = 0xFF, 0x01 // 511
	s.Vram[2], s.Vram[3] = 0x00, 0x02 // 512
	l := s.Draw(0, 0)
	if l[0] != 5 || l[7] != 5 || l[8] != bg.None || l[15] != bg.None {
		t.Fatal(l[:16])
	}
	s.Bg[0] = 0x1F00 // the map itself may lie beyond
	s.Y[0] = 256
	s.Bg[0] |= 0x8000
	s.Vram[0x10000], s.Vram[0x10001] = 1, 0
	s.Vram[32] = 0x01
	if l = s.Draw(0, 0); l[0] != 5 || l[1] != bg.None {
		t.Fatal(l[:8])
	}
}

func TestTheSceneStaysAsItIs(t *testing.T) {
	r := rand.New(rand.NewSource(1))
	s := randomScene(r)
	before := append([]byte(nil), s.Vram...)
	ref := s.Ref
	for i := range 4 {
		s.Draw(i, 3)
	}
	for k := range before {
		if s.Vram[k] != before[k] {
			t.Fatal(k)
		}
	}
	if s.Ref != ref {
		t.Fatal()
	}
}

func BenchmarkText(b *testing.B) {
	s := randomScene(rand.New(rand.NewSource(1)))
	s.Control = 0x0F00
	for range b.N {
		s.Draw(0, 7)
	}
}
