package thumb_test

import (
	"testing"

	"cameo/api"
	"cameo/thumb"
)

type fields map[byte]uint32

// match reads a pattern of the chapter: its letters' numbers, or false.
func match(pattern string, h uint16) (fields, bool) {
	f := fields{}
	for i := range pattern {
		c, b := pattern[i], uint32(h>>(15-i)&1)
		switch c {
		case '.':
		case '0', '1':
			if uint32(c-'0') != b {
				return nil, false
			}
		default:
			f[c] = f[c]<<1 | b
		}
	}
	return f, true
}

type row struct {
	pattern string
	when    func(f fields) bool
	make    func(f fields) api.Instr
}

func always(fields) bool { return true }
func num(x uint32) int   { return int(x) }
func on(x uint32) bool   { return x == 1 }

func is(c byte, values ...uint32) func(f fields) bool {
	return func(f fields) bool {
		for _, v := range values {
			if f[c] == v {
				return true
			}
		}
		return false
	}
}

func signed(x, n uint32) uint32 {
	if x >= 1<<(n-1) {
		x -= 1 << n
	}
	return x
}

func addOr(f fields) int {
	if f['O'] == 1 {
		return 2
	}
	return 4
}

// table is the chapter's table, row by row.
var table = []row{
	{"000ttaaaaammmddd", is('t', 0, 1, 2), func(f fields) api.Instr {
		return api.Instr{Kind: api.OpData, Code: 13, Flags: true, Rd: num(f['d']), Rm: num(f['m']), Shift: num(f['t']), Amount: num(f['a'])}
	}},
	{"00011IOmmmnnnddd", is('I', 0), func(f fields) api.Instr {
		return api.Instr{Kind: api.OpData, Code: addOr(f), Flags: true, Rd: num(f['d']), Rn: num(f['n']), Rm: num(f['m'])}
	}},
	{"00011IOmmmnnnddd", is('I', 1), func(f fields) api.Instr {
		return api.Instr{Kind: api.OpData, Code: addOr(f), Flags: true, Rd: num(f['d']), Rn: num(f['n']), HasImm: true, Imm: f['m']}
	}},
	{"00100dddiiiiiiii", always, func(f fields) api.Instr {
		return api.Instr{Kind: api.OpData, Code: 13, Flags: true, Rd: num(f['d']), HasImm: true, Imm: f['i']}
	}},
	{"00101nnniiiiiiii", always, func(f fields) api.Instr {
		return api.Instr{Kind: api.OpData, Code: 10, Flags: true, Rn: num(f['n']), HasImm: true, Imm: f['i']}
	}},
	{"00110dddiiiiiiii", always, func(f fields) api.Instr {
		return api.Instr{Kind: api.OpData, Code: 4, Flags: true, Rd: num(f['d']), Rn: num(f['d']), HasImm: true, Imm: f['i']}
	}},
	{"00111dddiiiiiiii", always, func(f fields) api.Instr {
		return api.Instr{Kind: api.OpData, Code: 2, Flags: true, Rd: num(f['d']), Rn: num(f['d']), HasImm: true, Imm: f['i']}
	}},
	{"010000oooosssddd", is('o', 0, 1, 5, 6, 12, 14), func(f fields) api.Instr {
		return api.Instr{Kind: api.OpData, Code: num(f['o']), Flags: true, Rd: num(f['d']), Rn: num(f['d']), Rm: num(f['s'])}
	}},
	{"010000oooosssddd", is('o', 2, 3, 4, 7), func(f fields) api.Instr {
		shift := map[uint32]int{2: 0, 3: 1, 4: 2, 7: 3}[f['o']]
		return api.Instr{Kind: api.OpData, Code: 13, Flags: true, Rd: num(f['d']), Rm: num(f['d']), Rs: num(f['s']), ByReg: true, Shift: shift}
	}},
	{"010000oooosssddd", is('o', 8, 10, 11), func(f fields) api.Instr {
		return api.Instr{Kind: api.OpData, Code: num(f['o']), Flags: true, Rn: num(f['d']), Rm: num(f['s'])}
	}},
	{"010000oooosssddd", is('o', 9), func(f fields) api.Instr {
		return api.Instr{Kind: api.OpData, Code: 3, Flags: true, Rd: num(f['d']), Rn: num(f['s']), HasImm: true}
	}},
	{"010000oooosssddd", is('o', 13), func(f fields) api.Instr {
		return api.Instr{Kind: api.OpMul, Flags: true, Rd: num(f['d']), Rs: num(f['d']), Rm: num(f['s'])}
	}},
	{"010000oooosssddd", is('o', 15), func(f fields) api.Instr {
		return api.Instr{Kind: api.OpData, Code: 15, Flags: true, Rd: num(f['d']), Rm: num(f['s'])}
	}},
	{"01000100dssssddd", always, func(f fields) api.Instr {
		return api.Instr{Kind: api.OpData, Code: 4, Rd: num(f['d']), Rn: num(f['d']), Rm: num(f['s'])}
	}},
	{"01000101dssssddd", always, func(f fields) api.Instr {
		return api.Instr{Kind: api.OpData, Code: 10, Flags: true, Rn: num(f['d']), Rm: num(f['s'])}
	}},
	{"01000110dssssddd", always, func(f fields) api.Instr {
		return api.Instr{Kind: api.OpData, Code: 13, Rd: num(f['d']), Rm: num(f['s'])}
	}},
	{"01000111.mmmm...", always, func(f fields) api.Instr { return api.Instr{Kind: api.OpBX, Rm: num(f['m'])} }},
	{"01001dddiiiiiiii", always, func(f fields) api.Instr {
		return api.Instr{Kind: api.OpWord, Rd: num(f['d']), Rn: 15, Load: true, Pre: true, Up: true, HasImm: true, Imm: 4 * f['i'], Align: true}
	}},
	{"0101LB0mmmnnnddd", always, func(f fields) api.Instr {
		return api.Instr{Kind: api.OpWord, Rd: num(f['d']), Rn: num(f['n']), Rm: num(f['m']), Load: on(f['L']), Byte: on(f['B']), Pre: true, Up: true}
	}},
	{"0101HH1mmmnnnddd", always, func(f fields) api.Instr {
		code := []int{1, 2, 1, 3}[f['H']]
		return api.Instr{Kind: api.OpHalf, Code: code, Rd: num(f['d']), Rn: num(f['n']), Rm: num(f['m']), Load: f['H'] != 0, Pre: true, Up: true}
	}},
	{"0110Liiiiinnnddd", always, func(f fields) api.Instr {
		return api.Instr{Kind: api.OpWord, Rd: num(f['d']), Rn: num(f['n']), Load: on(f['L']), Pre: true, Up: true, HasImm: true, Imm: 4 * f['i']}
	}},
	{"0111Liiiiinnnddd", always, func(f fields) api.Instr {
		return api.Instr{Kind: api.OpWord, Rd: num(f['d']), Rn: num(f['n']), Load: on(f['L']), Byte: true, Pre: true, Up: true, HasImm: true, Imm: f['i']}
	}},
	{"1000Liiiiinnnddd", always, func(f fields) api.Instr {
		return api.Instr{Kind: api.OpHalf, Code: 1, Rd: num(f['d']), Rn: num(f['n']), Load: on(f['L']), Pre: true, Up: true, HasImm: true, Imm: 2 * f['i']}
	}},
	{"1001Ldddiiiiiiii", always, func(f fields) api.Instr {
		return api.Instr{Kind: api.OpWord, Rd: num(f['d']), Rn: 13, Load: on(f['L']), Pre: true, Up: true, HasImm: true, Imm: 4 * f['i']}
	}},
	{"10100dddiiiiiiii", always, func(f fields) api.Instr {
		return api.Instr{Kind: api.OpData, Code: 4, Rd: num(f['d']), Rn: 15, HasImm: true, Imm: f['i'], Amount: 15, Align: true}
	}},
	{"10101dddiiiiiiii", always, func(f fields) api.Instr {
		return api.Instr{Kind: api.OpData, Code: 4, Rd: num(f['d']), Rn: 13, HasImm: true, Imm: f['i'], Amount: 15}
	}},
	{"10110000Oiiiiiii", always, func(f fields) api.Instr {
		return api.Instr{Kind: api.OpData, Code: addOr(f), Rd: 13, Rn: 13, HasImm: true, Imm: f['i'], Amount: 15}
	}},
	{"1011010Rllllllll", always, func(f fields) api.Instr {
		return api.Instr{Kind: api.OpBlock, Rn: 13, Pre: true, Back: true, List: num(f['l'] + f['R']*0x4000)}
	}},
	{"1011110Rllllllll", always, func(f fields) api.Instr {
		return api.Instr{Kind: api.OpBlock, Rn: 13, Load: true, Up: true, Back: true, List: num(f['l'] + f['R']*0x8000)}
	}},
	{"1100Lnnnllllllll", always, func(f fields) api.Instr {
		return api.Instr{Kind: api.OpBlock, Rn: num(f['n']), Load: on(f['L']), Up: true, Back: true, List: num(f['l'])}
	}},
	{"1101cccciiiiiiii", is('c', 0, 1, 2, 3, 4, 5, 6, 7, 8, 9, 10, 11, 12, 13), func(f fields) api.Instr {
		return api.Instr{Kind: api.OpBranch, Cond: num(f['c']), Imm: 2 * signed(f['i'], 8)}
	}},
	{"11011111iiiiiiii", always, func(f fields) api.Instr { return api.Instr{Kind: api.OpSoft, Imm: f['i']} }},
	{"11100iiiiiiiiiii", always, func(f fields) api.Instr { return api.Instr{Kind: api.OpBranch, Imm: 2 * signed(f['i'], 11)} }},
	{"11110iiiiiiiiiii", always, func(f fields) api.Instr { return api.Instr{Kind: api.OpLink, Imm: 4096 * signed(f['i'], 11)} }},
	{"11111iiiiiiiiiii", always, func(f fields) api.Instr { return api.Instr{Kind: api.OpLink, Code: 1, Imm: 2 * f['i']} }},
}

func decode(h uint16) api.Instr {
	for _, r := range table {
		if f, ok := match(r.pattern, h); ok && r.when(f) {
			x := r.make(f)
			if _, own := f['c']; !own {
				x.Cond = 14
			}
			return x
		}
	}
	return api.Instr{Cond: 14}
}

func TestAllHalfwords(t *testing.T) {
	for h := range 1 << 16 {
		if got, want := thumb.Decode(uint16(h)), decode(uint16(h)); got != want {
			t.Fatalf("%04x:\n%+v\n%+v", h, got, want)
		}
	}
}

func TestExamples(t *testing.T) {
	for _, e := range []struct {
		h uint16
		x api.Instr
	}{
		{0x2105, api.Instr{Kind: api.OpData, Cond: 14, Code: 13, Flags: true, Rd: 1, HasImm: true, Imm: 5}},
		{0x4770, api.Instr{Kind: api.OpBX, Cond: 14, Rm: 14}},
		{0xD0FE, api.Instr{Kind: api.OpBranch, Imm: 0xFFFFFFFC}},
		{0xB510, api.Instr{Kind: api.OpBlock, Cond: 14, Rn: 13, Pre: true, Back: true, List: 0x4010}},
		{0xDE00, api.Instr{Cond: 14}},
		{0xF7FF, api.Instr{Kind: api.OpLink, Cond: 14, Imm: 0xFFFFF000}},
		{0x4487, api.Instr{Kind: api.OpData, Cond: 14, Code: 4, Rd: 15, Rn: 15}},
	} {
		if x := thumb.Decode(e.h); x != e.x {
			t.Fatalf("%04x %+v", e.h, x)
		}
	}
}
