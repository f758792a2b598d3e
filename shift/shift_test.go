package shift_test

import (
	"math"
	"math/rand"
	"testing"

	"cameo/shift"
)

// one shifts by one place.
func one(kind int, x uint32) (uint32, bool) {
	switch kind & 3 {
	case 0:
		return x << 1, x>>31 == 1
	case 1:
		return x >> 1, x&1 == 1
	case 2:
		return x>>1 | x&0x80000000, x&1 == 1
	}
	return x>>1 | x<<31, x&1 == 1
}

// model shifts place by place.
func model(kind int, x uint32, n int, carry bool) (uint32, bool) {
	for range n {
		x, carry = one(kind, x)
	}
	return x, carry
}

func words() []uint32 {
	all := []uint32{0, 1, 2, 3, 0x80000000, 0x80000001, 0x7FFFFFFF, 0xFFFFFFFF, 0xFFFFFFFE, 0x55555555, 0xAAAAAAAA, 0x00010000}
	r := rand.New(rand.NewSource(1))
	for range 100 {
		all = append(all, r.Uint32())
	}
	return all
}

func TestReg(t *testing.T) {
	for _, x := range words() {
		for kind := -4; kind < 9; kind++ {
			for n := range 256 {
				for _, carry := range []bool{false, true} {
					y, c := shift.Reg(kind, x, uint32(n)|0xABCDEF00, carry)
					if wy, wc := model(kind, x, n, carry); y != wy || c != wc {
						t.Fatalf("%d %x by %d: %x %v, want %x %v", kind, x, n, y, c, wy, wc)
					}
				}
			}
		}
	}
}

func TestImm(t *testing.T) {
	for _, x := range words() {
		for kind := -4; kind < 9; kind++ {
			for _, carry := range []bool{false, true} {
				for n := 1; n < 32; n++ {
					wy, wc := model(kind, x, n, carry)
					for _, m := range []int{n, n + 32, n - 32, n + 3200, math.MinInt + n, math.MaxInt - 31 + n} {
						if y, c := shift.Imm(kind, x, m, carry); y != wy || c != wc {
							t.Fatal(kind, x, m, y, c)
						}
					}
				}
				in := uint32(0)
				if carry {
					in = 0x80000000
				}
				wy, wc := x, carry
				switch kind & 3 {
				case 1:
					wy, wc = 0, x>>31 == 1
				case 2:
					wy, wc = uint32(int32(x)>>31), x>>31 == 1
				case 3:
					wy, wc = x>>1|in, x&1 == 1
				}
				for _, m := range []int{0, 32, -32, 64, math.MinInt} {
					if y, c := shift.Imm(kind, x, m, carry); y != wy || c != wc {
						t.Fatal(kind, x, m, y, c)
					}
				}
			}
		}
	}
}

func TestTurned(t *testing.T) {
	for imm := range uint32(256) {
		for n := range 16 {
			for _, carry := range []bool{false, true} {
				want, wc := imm, carry
				for range 2 * n {
					want = want>>1 | want<<31
					wc = want>>31 == 1
				}
				for _, m := range []int{n, n + 16, n - 16, math.MinInt + n} {
					if y, c := shift.Turned(imm|0x12345600, m, carry); y != want || c != wc {
						t.Fatal(imm, m, y, c)
					}
				}
			}
		}
	}
}

func TestExamples(t *testing.T) {
	if y, c := shift.Reg(0, 1, 32, false); y != 0 || !c {
		t.Fatal()
	}
	if y, c := shift.Reg(1, 0x80000000, 32, false); y != 0 || !c {
		t.Fatal()
	}
	if y, c := shift.Reg(1, 0x80000000, 33, true); y != 0 || c {
		t.Fatal()
	}
	if y, c := shift.Imm(3, 1, 0, true); y != 0x80000000 || !c {
		t.Fatal()
	}
	if y, c := shift.Turned(1, 1, false); y != 0x40000000 || c {
		t.Fatal()
	}
}

func TestOnePlaceMore(t *testing.T) {
	for _, x := range words() {
		for kind := range 4 {
			for n := uint32(1); n < 255; n++ {
				y, c := shift.Reg(kind, x, n+1, true)
				z, d := shift.Reg(kind, x, n, true)
				z, d = shift.Reg(kind, z, 1, d)
				if y != z || c != d {
					t.Fatal(kind, x, n)
				}
			}
		}
	}
}
