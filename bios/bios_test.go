package bios_test

import (
	"math"
	"math/big"
	"math/rand"
	"slices"
	"testing"

	"cameo/bios"
)

type access struct {
	write bool
	addr  uint32
	width int
	x     uint32
}

// ram is a memory that notes all accesses; it isn't aligned, as the services see to that themselves.
type ram struct {
	bytes map[uint32]byte
	log   []access
}

func newRAM() *ram { return &ram{bytes: map[uint32]byte{}} }

func (m *ram) Read(addr uint32, width int) uint32 {
	x := uint32(0)
	for i := range width {
		x |= uint32(m.bytes[addr+uint32(i)]) << (8 * i)
	}
	m.log = append(m.log, access{false, addr, width, x})
	return x
}

func (m *ram) Write(addr uint32, width int, x uint32) {
	m.log = append(m.log, access{true, addr, width, x})
	for i := range width {
		m.bytes[addr+uint32(i)] = byte(x >> (8 * i))
	}
}

func (m *ram) lay(addr uint32, b ...byte) {
	for i, x := range b {
		m.bytes[addr+uint32(i)] = x
	}
}

func (m *ram) take(addr uint32, n int) []byte {
	var out []byte
	for i := range n {
		out = append(out, m.bytes[addr+uint32(i)])
	}
	return out
}

func (m *ram) same(t *testing.T, want ...access) {
	t.Helper()
	if !slices.Equal(m.log, want) {
		t.Fatalf("\n%v\n%v", m.log, want)
	}
}

func numbers() []int32 {
	all := []int32{0, 1, -1, 2, -2, 7, -7, 100, math.MaxInt32, math.MinInt32, math.MaxInt32 - 1, math.MinInt32 + 1, 16384, -16384, 65536, 46340, 46341}
	r := rand.New(rand.NewSource(1))
	for range 150 {
		all = append(all, int32(r.Uint32()), int32(r.Intn(2000)-1000))
	}
	return all
}

func TestDiv(t *testing.T) {
	for _, a := range numbers() {
		for _, b := range numbers() {
			q, r, n := bios.Div(a, b)
			wq, wr, wn := int32(1), a, int32(1)
			switch {
			case b == 0 && a < 0:
				wq = -1
			case b != 0:
				x, y := new(big.Int).QuoRem(big.NewInt(int64(a)), big.NewInt(int64(b)), new(big.Int))
				wq, wr = int32(x.Int64()), int32(y.Int64())
				wn = int32(x.Abs(x).Int64())
			}
			if q != wq || r != wr || n != wn {
				t.Fatal(a, b, q, r, n)
			}
		}
	}
	if q, r, n := bios.Div(-7, 2); q != -3 || r != -1 || n != 3 {
		t.Fatal()
	}
	if q, r, n := bios.Div(math.MinInt32, -1); q != math.MinInt32 || r != 0 || n != math.MinInt32 {
		t.Fatal(q, r, n)
	}
}

func TestSqrt(t *testing.T) {
	check := func(x uint32) {
		t.Helper()
		n := uint64(bios.Sqrt(x))
		if n*n > uint64(x) || (n+1)*(n+1) <= uint64(x) {
			t.Fatal(x, n)
		}
	}
	for n := range uint32(65536) {
		check(n * n)
		check(n*n - 1)
		check(n*n + 1)
	}
	check(math.MaxUint32)
}

// mod32 makes a big number one of 32 bits with a sign.
func mod32(x *big.Int) *big.Int {
	return big.NewInt(int64(int32(uint32(new(big.Int).And(x, big.NewInt(math.MaxUint32)).Uint64()))))
}

func arcTan(t int32) int32 {
	mul := func(a, b *big.Int, n uint) *big.Int {
		p := mod32(new(big.Int).Mul(a, b))
		return p.Rsh(p, n) // rounded down
	}
	x := big.NewInt(int64(t))
	a := mod32(new(big.Int).Neg(mul(x, x, 14)))
	b := big.NewInt(0xA9)
	for _, k := range []int64{0x390, 0x91C, 0xFB6, 0x16AA, 0x2081, 0x3651, 0xA2F9} {
		b = mod32(new(big.Int).Add(mul(b, a, 14), big.NewInt(k)))
	}
	return int32(mul(x, b, 16).Int64())
}

func TestArcTan(t *testing.T) {
	for _, x := range numbers() {
		if bios.ArcTan(x) != arcTan(x) {
			t.Fatal(x, bios.ArcTan(x), arcTan(x))
		}
	}
	for x := int32(-16384); x <= 16384; x += 64 {
		want := math.Atan(float64(x)/16384) / (2 * math.Pi) * 65536
		if got := bios.ArcTan(x); got != arcTan(x) || math.Abs(float64(got)-want) > 12 {
			t.Fatal(x, got, want)
		}
	}
}

func arcTan2(x, y int32) uint16 {
	q := func(a, b int32) int32 {
		n := new(big.Int).Quo(new(big.Int).Lsh(big.NewInt(int64(a)), 14), big.NewInt(int64(b)))
		return int32(mod32(n).Int64())
	}
	abs := func(a int32) int32 {
		if a < 0 {
			a = -a
		}
		return a
	}
	if y == 0 {
		if x >= 0 {
			return 0
		}
		return 0x8000
	}
	if x == 0 {
		if y > 0 {
			return 0x4000
		}
		return 0xC000
	}
	if abs(x) >= abs(y) {
		n := arcTan(q(y, x))
		if x < 0 {
			n += 0x8000
		}
		return uint16(n)
	}
	if y > 0 {
		return uint16(0x4000 - arcTan(q(x, y)))
	}
	return uint16(0xC000 - arcTan(q(x, y)))
}

func TestArcTan2(t *testing.T) {
	for _, x := range numbers() {
		for _, y := range numbers() {
			if bios.ArcTan2(x, y) != arcTan2(x, y) {
				t.Fatal(x, y, bios.ArcTan2(x, y), arcTan2(x, y))
			}
		}
	}
	for _, e := range []struct {
		x, y int32
		want uint16
	}{{1, 1, 0x2000}, {-1, 1, 0x6000}, {-1, -1, 0xA000}, {1, -1, 0xE000}, {0, 0, 0}, {-5, 0, 0x8000}, {0, 5, 0x4000}, {0, -5, 0xC000}} {
		if n := bios.ArcTan2(e.x, e.y); n != e.want {
			t.Fatalf("%v %x", e, n)
		}
	}
}

func TestSine(t *testing.T) {
	for n := -1000; n < 1000; n++ {
		k := ((n % 256) + 256) % 256
		sign := 1
		if k >= 128 {
			k, sign = k-128, -1
		}
		p := 4 * k * (128 - k)
		want := sign * (p * (12698 + 3686*p/16384) / 16384)
		if got := bios.Sine(n); got != want || math.Abs(float64(got)-16384*math.Sin(float64(n)*math.Pi/128)) > 20 {
			t.Fatal(n, got, want)
		}
	}
	bios.Sine(math.MinInt)
	if bios.Sine(64) != 16384 || bios.Sine(math.MaxInt) != bios.Sine(255) {
		t.Fatal()
	}
}

func TestCopy(t *testing.T) {
	for _, fast := range []bool{false, true} {
		for _, bits := range []uint32{0, 1 << 24, 1 << 26, 1<<24 | 1<<26, 0xFAFF0000 &^ (1<<24 | 1<<26)} {
			for _, n := range []uint32{0, 1, 7, 8, 9, 17} {
				m := newRAM()
				for i := range 200 {
					m.lay(0x100+uint32(i), byte(3*i))
				}
				got := bios.Copy(m, 0x103, 0x203, bits|n, fast)
				width, units := uint32(2), n
				if fast || bits>>26&1 == 1 {
					width = 4
				}
				if fast {
					units = (n + 7) / 8 * 8
				}
				if got != int(units) {
					t.Fatal(got, units)
				}
				from, to := 0x103/width*width, 0x203/width*width
				var want []access
				for range units {
					x := uint32(0)
					for i := range width {
						x |= uint32(byte(3*(from+i-0x100))) << (8 * i)
					}
					want = append(want, access{false, from, int(width), x}, access{true, to, int(width), x})
					if bits>>24&1 == 0 {
						from += width
					}
					to += width
				}
				m.same(t, want...)
			}
		}
	}
	m := newRAM()
	if bios.Copy(m, 0, 0, 0xFFFF, true) != 65536 || bios.Copy(m, 0xFFFFFFFE, 0xFFFFFFFE, 0xFFFF, false) != 65535 {
		t.Fatal()
	}
	// Unit by unit: what was written is read again.
	m = newRAM()
	m.lay(0x100, 1, 2)
	bios.Copy(m, 0x100, 0x102, 5, false)
	if !slices.Equal(m.take(0x100, 12), []byte{1, 2, 1, 2, 1, 2, 1, 2, 1, 2, 1, 2}) {
		t.Fatal(m.take(0x100, 12))
	}
}

func TestNoMemory(t *testing.T) {
	if bios.Copy(nil, 0, 0, 5, false) != 0 || bios.Unpack(nil, 0, 0) != 0 || bios.BgTurn(nil, 0, 0, 1) != 0 || bios.ObjTurn(nil, 0, 0, 1, 2) != 0 {
		t.Fatal()
	}
}

func word(x int32) []byte { return []byte{byte(x), byte(x >> 8), byte(x >> 16), byte(x >> 24)} }
func half(x int32) []byte { return []byte{byte(x), byte(x >> 8)} }

// four gives A to D.
func four(sx, sy int32, angle uint16) [4]int32 {
	s, c := bios.Sine(int(angle>>8)), bios.Sine(int(angle>>8)+64)
	all := [4]int{int(sx) * c >> 14, -int(sx) * s >> 14, int(sy) * s >> 14, int(sy) * c >> 14}
	var out [4]int32
	for i, x := range all {
		out[i] = int32(int16(x))
	}
	return out
}

func u16(x int32) uint32 { return uint32(uint16(x)) }

func TestBgTurn(t *testing.T) {
	r := rand.New(rand.NewSource(2))
	for range 300 {
		n := r.Intn(4) - 1
		m := newRAM()
		from, to := r.Uint32(), r.Uint32()
		var want []access
		for k := range max(n, 0) {
			f, w := from+uint32(20*k), to+uint32(16*k)
			cx, cy := int32(r.Uint32()), int32(r.Uint32())
			h := [5]int32{}
			for i := range h {
				h[i] = int32(int16(r.Uint32()))
			}
			b := append(word(cx), word(cy)...)
			for _, x := range h {
				b = append(b, half(x)...)
			}
			m.lay(f, b...)
			p := four(h[2], h[3], uint16(h[4]))
			want = append(want, access{false, f, 4, uint32(cx)}, access{false, f + 4, 4, uint32(cy)})
			for i, x := range h {
				want = append(want, access{false, f + 8 + uint32(2*i), 2, u16(x)})
			}
			for i, x := range p {
				want = append(want, access{true, w + uint32(2*i), 2, u16(x)})
			}
			want = append(want, access{true, w + 8, 4, uint32(cx - p[0]*h[0] - p[1]*h[1])}, access{true, w + 12, 4, uint32(cy - p[2]*h[0] - p[3]*h[1])})
		}
		if got := bios.BgTurn(m, from, to, n); got != max(n, 0) {
			t.Fatal(got)
		}
		m.same(t, want...)
	}
	m := newRAM()
	if bios.BgTurn(m, 0, 0x10000, math.MaxInt) != 256 || bios.BgTurn(m, 0, 0x10000, 257) != 256 || bios.BgTurn(m, 0, 0x10000, math.MinInt) != 0 {
		t.Fatal()
	}
}

func TestObjTurn(t *testing.T) {
	r := rand.New(rand.NewSource(3))
	for range 300 {
		n := r.Intn(4) - 1
		m := newRAM()
		from, to, apart := r.Uint32()&0x0FFFFFFF, r.Uint32()|0x80000000, []uint32{2, 8, 0, r.Uint32() & 0xFFFF}[r.Intn(4)]
		var want []access
		w := to
		for k := range max(n, 0) {
			f := from + uint32(8*k)
			h := [3]int32{int32(int16(r.Uint32())), int32(int16(r.Uint32())), int32(int16(r.Uint32()))}
			for i, x := range h {
				m.lay(f+uint32(2*i), half(x)...)
				want = append(want, access{false, f + uint32(2*i), 2, u16(x)})
			}
			for _, x := range four(h[0], h[1], uint16(h[2])) {
				want = append(want, access{true, w, 2, u16(x)})
				w += apart
			}
		}
		if got := bios.ObjTurn(m, from, to, n, apart); got != max(n, 0) {
			t.Fatal(got)
		}
		m.same(t, want...)
	}
	m := newRAM()
	if bios.ObjTurn(m, 0, 0x10000, math.MaxInt, 2) != 256 || bios.ObjTurn(m, 0, 0x10000, -1, 2) != 0 {
		t.Fatal()
	}
}
