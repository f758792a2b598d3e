package arm_test

import (
	"math/rand"
	"testing"

	"cameo/api"
	"cameo/arm"
)

type fields map[byte]uint32

// match reads a pattern of the chapter: its letters' numbers, or false.
func match(pattern string, w uint32) (fields, bool) {
	f := fields{}
	for i := range pattern {
		c, b := pattern[i], w>>(31-i)&1
		switch c {
		case '.':
		case '0', '1':
			if uint32(c-'0') != b {
				return nil, false
			}
		default:
			f[c] = f[c]<<1 | b
		}
	}
	return f, true
}

type row struct {
	pattern string
	when    func(f fields) bool
	make    func(f fields, x *api.Instr)
}

func isData(f fields) bool        { return f['o'] < 8 || f['o'] > 11 || f['F'] == 1 }
func someHalf(f fields) bool      { return f['H'] != 0 }
func always(fields) bool          { return true }
func on(x uint32) bool            { return x == 1 }
func num(x uint32) int            { return int(x) }
func back(f fields, x *api.Instr) { x.Back = f['W'] == 1 || f['P'] == 0 }

// table is the chapter's table, row by row.
var table = []row{
	{"cccc000000AFddddnnnnssss1001mmmm", always, func(f fields, x *api.Instr) { x.Kind, x.Long, x.Flags = api.OpMul, on(f['A']), on(f['F']) }},
	{"cccc00001SAFddddnnnnssss1001mmmm", always, func(f fields, x *api.Instr) {
		x.Kind, x.Signed, x.Long, x.Flags = api.OpMulLong, on(f['S']), on(f['A']), on(f['F'])
	}},
	{"cccc00010B00nnnndddd00001001mmmm", always, func(f fields, x *api.Instr) { x.Kind = api.OpSwap }},
	{"cccc000PU0W1nnnndddd....1HH1mmmm", someHalf, func(f fields, x *api.Instr) { x.Kind, x.Code, x.Load = api.OpHalf, num(f['H']), true; back(f, x) }},
	{"cccc000PU0W0nnnndddd....1011mmmm", always, func(f fields, x *api.Instr) { x.Kind, x.Code = api.OpHalf, 1; back(f, x) }},
	{"cccc000PU1W1nnnnddddIIII1HH1IIII", someHalf, func(f fields, x *api.Instr) {
		x.Kind, x.Code, x.Load, x.HasImm, x.Imm = api.OpHalf, num(f['H']), true, true, f['I']
		back(f, x)
	}},
	{"cccc000PU1W0nnnnddddIIII1011IIII", always, func(f fields, x *api.Instr) {
		x.Kind, x.Code, x.HasImm, x.Imm = api.OpHalf, 1, true, f['I']
		back(f, x)
	}},
	{"cccc000100101111111111110001mmmm", always, func(f fields, x *api.Instr) { x.Kind = api.OpBX }},
	{"cccc00010Q001111dddd000000000000", always, func(f fields, x *api.Instr) { x.Kind, x.User = api.OpGetPSR, on(f['Q']) }},
	{"cccc00010Q10llll111100000000mmmm", always, func(f fields, x *api.Instr) { x.Kind, x.User, x.List = api.OpSetPSR, on(f['Q']), num(f['l']) }},
	{"cccc00110Q10llll1111aaaaIIIIIIII", always, func(f fields, x *api.Instr) {
		x.Kind, x.User, x.List, x.HasImm, x.Imm, x.Amount = api.OpSetPSR, on(f['Q']), num(f['l']), true, f['I'], num(f['a'])
	}},
	{"cccc000ooooFnnnnddddaaaaatt0mmmm", isData, func(f fields, x *api.Instr) {
		x.Kind, x.Code, x.Flags, x.Shift, x.Amount = api.OpData, num(f['o']), on(f['F']), num(f['t']), num(f['a'])
	}},
	{"cccc000ooooFnnnnddddssss0tt1mmmm", isData, func(f fields, x *api.Instr) {
		x.Kind, x.Code, x.Flags, x.Shift, x.ByReg = api.OpData, num(f['o']), on(f['F']), num(f['t']), true
	}},
	{"cccc001ooooFnnnnddddaaaaIIIIIIII", isData, func(f fields, x *api.Instr) {
		x.Kind, x.Code, x.Flags, x.HasImm, x.Imm, x.Amount = api.OpData, num(f['o']), on(f['F']), true, f['I'], num(f['a'])
	}},
	{"cccc010PUBWLnnnnddddIIIIIIIIIIII", always, func(f fields, x *api.Instr) { x.Kind, x.HasImm, x.Imm = api.OpWord, true, f['I']; back(f, x) }},
	{"cccc011PUBWLnnnnddddaaaaatt0mmmm", always, func(f fields, x *api.Instr) {
		x.Kind, x.Shift, x.Amount = api.OpWord, num(f['t']), num(f['a'])
		back(f, x)
	}},
	{"cccc100PUQWLnnnnllllllllllllllll", always, func(f fields, x *api.Instr) {
		x.Kind, x.List, x.User, x.Back = api.OpBlock, num(f['l']), on(f['Q']), on(f['W'])
	}},
	{"cccc101KIIIIIIIIIIIIIIIIIIIIIIII", always, func(f fields, x *api.Instr) {
		x.Kind, x.Link, x.Imm = api.OpBranch, on(f['K']), f['I']*4
		if f['I'] >= 1<<23 {
			x.Imm = (f['I'] - 1<<24) * 4
		}
	}},
	{"cccc1111IIIIIIII................", always, func(f fields, x *api.Instr) { x.Kind, x.Imm = api.OpSoft, f['I'] }},
}

func decode(w uint32) api.Instr {
	for _, r := range table {
		f, ok := match(r.pattern, w)
		if !ok || !r.when(f) {
			continue
		}
		x := api.Instr{Cond: num(f['c']), Rd: num(f['d']), Rn: num(f['n']), Rs: num(f['s']), Rm: num(f['m'])}
		x.Pre, x.Up, x.Byte, x.Load = on(f['P']), on(f['U']), on(f['B']), on(f['L'])
		r.make(f, &x)
		return x
	}
	return api.Instr{Cond: num(w >> 28)}
}

func check(t *testing.T, w uint32) {
	t.Helper()
	if got, want := arm.Decode(w), decode(w); got != want {
		t.Fatalf("%08x:\n%+v\n%+v", w, got, want)
	}
}

// like fills a pattern's free bits at random.
func like(pattern string, r *rand.Rand) uint32 {
	w := uint32(0)
	for i := range pattern {
		b := uint32(r.Intn(2))
		if pattern[i] == '0' || pattern[i] == '1' {
			b = uint32(pattern[i] - '0')
		}
		w = w<<1 | b
	}
	return w
}

func TestDecode(t *testing.T) {
	r := rand.New(rand.NewSource(1))
	for range 100000 {
		check(t, r.Uint32())
	}
	for _, x := range table {
		for range 2000 {
			w := like(x.pattern, r)
			check(t, w)
			check(t, w^1<<r.Intn(32)) // hardly one of these, or hardly none
		}
	}
}

// All words by the bits that decide: 20 to 27 and 4 to 7, with all else 0, all else 1, and some between.
func TestDecodeByTheDecidingBits(t *testing.T) {
	r := rand.New(rand.NewSource(2))
	for hi := range uint32(256) {
		for lo := range uint32(16) {
			for i := range 60 {
				rest := []uint32{0, 0xFFFFFFFF, 0x000FF000, 0x000F0000, 0x0000F000, 0x000FFF00, 0x00000F0F, r.Uint32()}[i%8]
				check(t, rest&^0x0FF000F0|hi<<20|lo<<4)
			}
		}
	}
}

func TestCondIsAllThatDiffers(t *testing.T) {
	r := rand.New(rand.NewSource(3))
	for range 20000 {
		w := r.Uint32()
		x := arm.Decode(w &^ 0xF0000000)
		for cond := range uint32(16) {
			y := arm.Decode(w&^0xF0000000 | cond<<28)
			if y.Cond != int(cond) {
				t.Fatal(w)
			}
			if y.Cond = 0; x != y {
				t.Fatal(w)
			}
		}
	}
}

func TestExamples(t *testing.T) {
	for _, e := range []struct {
		w uint32
		x api.Instr
	}{
		{0xE3A00301, api.Instr{Kind: api.OpData, Cond: 14, Code: 13, HasImm: true, Imm: 1, Amount: 3}},
		{0xEA000000, api.Instr{Kind: api.OpBranch, Cond: 14}},
		{0xE1B0F00E, api.Instr{Kind: api.OpData, Cond: 14, Code: 13, Flags: true, Rd: 15, Rm: 14}},
		{0xE7F000F0, api.Instr{Cond: 14}},
		{0xEAFFFFFE, api.Instr{Kind: api.OpBranch, Cond: 14, Imm: 0xFFFFFFF8}},
		{0xE12FFF1E, api.Instr{Kind: api.OpBX, Cond: 14, Rm: 14}},
		{0xE8BD500F, api.Instr{Kind: api.OpBlock, Cond: 14, Rn: 13, List: 0x500F, Up: true, Back: true, Load: true}},
		{0xE510F004, api.Instr{Kind: api.OpWord, Cond: 14, Rd: 15, Imm: 4, HasImm: true, Pre: true, Load: true}},
		{0xE1D210B2, api.Instr{Kind: api.OpHalf, Cond: 14, Code: 1, Rn: 2, Rd: 1, HasImm: true, Imm: 2, Load: true, Pre: true, Up: true}},
		{0xE0D210B2, api.Instr{Kind: api.OpHalf, Cond: 14, Code: 1, Rn: 2, Rd: 1, HasImm: true, Imm: 2, Load: true, Up: true, Back: true}},
	} {
		if x := arm.Decode(e.w); x != e.x {
			t.Fatalf("%08x %+v", e.w, x)
		}
	}
}
