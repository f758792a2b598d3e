package alu_test

import (
	"math"
	"math/big"
	"math/rand"
	"testing"

	"cameo/alu"
	"cameo/api"
)

func words() []uint32 {
	all := []uint32{0, 1, 2, 0xFF, 0x100, 0xFFFF, 0x10000, 0xFFFFFF, 0x1000000, 0x7FFFFFFF, 0x80000000, 0x80000001, 0xFFFFFFFF, 0xFFFFFFFE, 0xFFFFFF00, 0xFFFFFEFF, 0xFFFF0000, 0xFF000000, 0xFEFFFFFF}
	r := rand.New(rand.NewSource(1))
	for range 30 {
		all = append(all, r.Uint32())
	}
	return all
}

func allFlags() []api.Flags {
	var all []api.Flags
	for i := range 16 {
		all = append(all, api.Flags{N: i&8 != 0, Z: i&4 != 0, C: i&2 != 0, V: i&1 != 0})
	}
	return all
}

// do is the chapter's table in numbers that are wide enough.
func do(code int, a, b uint32, f api.Flags, shifted bool) (uint32, api.Flags) {
	c := int64(0)
	if f.C {
		c = 1
	}
	ua, ub, sa, sb := int64(a), int64(b), int64(int32(a)), int64(int32(b))
	var u, s int64
	difference := false
	switch code & 15 {
	case 0, 8:
		u = int64(a & b)
	case 1, 9:
		u = int64(a ^ b)
	case 12:
		u = int64(a | b)
	case 13:
		u = ub
	case 14:
		u = int64(a &^ b)
	case 15:
		u = int64(^b)
	case 2, 10:
		u, s, difference = ua-ub, sa-sb, true
	case 3:
		u, s, difference = ub-ua, sb-sa, true
	case 4, 11:
		u, s = ua+ub, sa+sb
	case 5:
		u, s = ua+ub+c, sa+sb+c
	case 6:
		u, s, difference = ua-ub-1+c, sa-sb-1+c, true
	case 7:
		u, s, difference = ub-ua-1+c, sb-sa-1+c, true
	}
	x := uint32(u)
	out := api.Flags{N: x >= 1<<31, Z: x == 0, C: shifted, V: f.V}
	switch code & 15 {
	case 2, 3, 4, 5, 6, 7, 10, 11:
		out.C = u >= 1<<32
		if difference {
			out.C = u >= 0
		}
		out.V = s < math.MinInt32 || s > math.MaxInt32
	}
	return x, out
}

func TestDo(t *testing.T) {
	for _, a := range words() {
		for _, b := range words() {
			for code := -16; code < 33; code++ {
				for i, f := range allFlags() {
					shifted := i%3 == 0
					x, g := alu.Do(code, a, b, f, shifted)
					if y, h := do(code, a, b, f, shifted); x != y || g != h {
						t.Fatalf("%d of %x, %x, %v: %x %v, want %x %v", code, a, b, f, x, g, y, h)
					}
				}
			}
		}
	}
}

func TestExamples(t *testing.T) {
	for _, x := range []struct {
		code    int
		a, b, y uint32
		f       api.Flags
	}{
		{2, 1, 1, 0, api.Flags{Z: true, C: true}},
		{4, 0x7FFFFFFF, 1, 0x80000000, api.Flags{N: true, V: true}},
		{10, 0, 1, 0xFFFFFFFF, api.Flags{N: true}},
	} {
		if y, f := alu.Do(x.code, x.a, x.b, api.Flags{}, true); y != x.y || f != x.f {
			t.Fatal(x, y, f)
		}
	}
}

func TestKeeps(t *testing.T) {
	for code := -32; code < 48; code++ {
		want := code&15 >= 8 && code&15 <= 11
		if alu.Keeps(code) != want {
			t.Fatal(code)
		}
	}
}

func TestHolds(t *testing.T) {
	for _, f := range allFlags() {
		want := []bool{
			f.Z, !f.Z, f.C, !f.C, f.N, !f.N, f.V, !f.V,
			f.C && !f.Z, !(f.C && !f.Z), f.N == f.V, f.N != f.V, !f.Z && f.N == f.V, f.Z || f.N != f.V, true, false,
		}
		for cond := -32; cond < 48; cond++ {
			if alu.Holds(cond, f) != want[cond&15] {
				t.Fatal(cond, f)
			}
		}
	}
}

func TestMul(t *testing.T) {
	for _, a := range words() {
		for _, b := range words() {
			for _, c := range []uint32{0, 1, 0x80000000, 0xFFFFFFFF, -(a * b)} {
				for _, f := range allFlags() {
					want := uint32((uint64(a)*uint64(b) + uint64(c)) % (1 << 32))
					x, g := alu.Mul(a, b, c, f)
					if x != want || g != (api.Flags{N: want >= 1<<31, Z: want == 0, C: f.C, V: f.V}) {
						t.Fatal(a, b, c, x, g)
					}
				}
			}
		}
	}
}

func TestMulLong(t *testing.T) {
	mod := new(big.Int).Lsh(big.NewInt(1), 64)
	r := rand.New(rand.NewSource(2))
	for _, a := range words() {
		for _, b := range words() {
			for _, signed := range []bool{false, true} {
				x, y := int64(a), int64(b)
				if signed {
					x, y = int64(int32(a)), int64(int32(b))
				}
				p := new(big.Int).Mul(big.NewInt(x), big.NewInt(y))
				minus := new(big.Int).Mod(new(big.Int).Neg(p), mod).Uint64()
				for _, c := range []uint64{0, 1, 1 << 63, math.MaxUint64, r.Uint64(), minus} {
					want := new(big.Int).Add(p, new(big.Int).SetUint64(c))
					w := want.Mod(want, mod).Uint64()
					f := allFlags()[r.Intn(16)]
					got, g := alu.MulLong(a, b, signed, c, f)
					if got != w || g != (api.Flags{N: w >= 1<<63, Z: w == 0, C: f.C, V: f.V}) {
						t.Fatal(a, b, signed, c, got, w, g)
					}
				}
			}
		}
	}
}

func TestCycles(t *testing.T) {
	for _, b := range words() {
		for _, signed := range []bool{false, true} {
			x, want := b, 1
			if signed && b >= 1<<31 {
				x = ^b
			}
			for x >>= 8; x != 0; x >>= 8 {
				want++
			}
			if n := alu.Cycles(b, signed); n != want {
				t.Fatal(b, signed, n)
			}
		}
	}
	if alu.Cycles(0x100, false) != 2 || alu.Cycles(0xFFFFFFFF, true) != 1 || alu.Cycles(0xFFFFFFFF, false) != 4 || alu.Cycles(0, true) != 1 {
		t.Fatal()
	}
}

func TestDifferencesAndOrder(t *testing.T) {
	for _, a := range words() {
		for _, b := range words() {
			x, f := alu.Do(2, a, b, api.Flags{}, false)
			y, g := alu.Do(5, a, ^b, api.Flags{C: true}, false)
			if x != y || f != g {
				t.Fatal(a, b)
			}
			_, f = alu.Do(10, a, b, api.Flags{}, false)
			if alu.Holds(8, f) != (a > b) || alu.Holds(12, f) != (int32(a) > int32(b)) || alu.Holds(0, f) != (a == b) {
				t.Fatal(a, b)
			}
		}
	}
}
