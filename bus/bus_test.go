package bus_test

import (
	"math"
	"math/rand"
	"testing"

	"cameo/api"
	"cameo/bus"
)

type area struct {
	first, last uint32 // the highest eight bits
	region      int
	size        uint32
	repeated    bool
}

var areas = []area{
	{0, 0, api.RegBios, 0x4000, false},
	{2, 2, api.RegWork, 0x40000, true},
	{3, 3, api.RegFast, 0x8000, true},
	{4, 4, api.RegIO, 0x400, false},
	{5, 5, api.RegPal, 0x400, true},
	{7, 7, api.RegOam, 0x400, true},
	{8, 13, api.RegRom, 0x2000000, true},
	{14, 15, api.RegSave, 0x10000, true},
}

func model(addr uint32) (int, int) {
	top := addr >> 24
	for _, a := range areas {
		if top < a.first || top > a.last {
			continue
		}
		if !a.repeated && addr-top<<24 >= a.size {
			return api.RegNone, 0
		}
		return a.region, int(addr % a.size)
	}
	if top == 6 {
		at := addr % 0x20000
		if at >= 0x18000 {
			at = at - 0x18000 + 0x10000
		}
		return api.RegVram, int(at)
	}
	return api.RegNone, 0
}

func addresses() []uint32 {
	var all []uint32
	r := rand.New(rand.NewSource(1))
	for top := range uint32(256) {
		for _, low := range []uint32{0, 1, 2, 3, 0x3FF, 0x400, 0x3FFF, 0x4000, 0x7FFF, 0x8000, 0xFFFF, 0x10000, 0x17FFF, 0x18000, 0x1FFFF, 0x20000, 0x37FFF, 0x38000, 0x3FFFF, 0x40000, 0xFFFFFF, 0xFFFFFE} {
			all = append(all, top<<24|low)
		}
		for range 30 {
			all = append(all, top<<24|r.Uint32()>>8)
		}
	}
	for range 5000 {
		all = append(all, r.Uint32())
	}
	return all
}

func TestMap(t *testing.T) {
	for _, a := range addresses() {
		region, at := bus.Map(a)
		if r, o := model(a); region != r || at != o {
			t.Fatalf("%08x: %d %x, want %d %x", a, region, at, r, o)
		}
	}
	if r, o := bus.Map(0x6018000); r != api.RegVram || o != 0x10000 {
		t.Fatal()
	}
}

func TestPlacesLieWithinAndRepeat(t *testing.T) {
	sizes := map[int]int{0: 1, api.RegBios: 0x4000, api.RegWork: 0x40000, api.RegFast: 0x8000, api.RegIO: 0x400, api.RegPal: 0x400, api.RegVram: 0x18000, api.RegOam: 0x400, api.RegRom: 0x2000000, api.RegSave: 0x10000}
	steps := map[int]uint32{api.RegWork: 0x40000, api.RegFast: 0x8000, api.RegPal: 0x400, api.RegVram: 0x20000, api.RegOam: 0x400, api.RegSave: 0x10000, api.RegRom: 0x2000000}
	for _, a := range addresses() {
		r, o := bus.Map(a)
		if o < 0 || o >= sizes[r] {
			t.Fatal(a, r, o)
		}
		if step, ok := steps[r]; ok {
			if r2, o2 := bus.Map(a + step); r2 == r && o2 != o {
				t.Fatal(a, step)
			}
		}
	}
}

func TestControl(t *testing.T) {
	n := []int{4, 3, 2, 8}
	for w := range 1 << 16 {
		x := bus.Control(uint16(w))
		want := bus.Waits{
			First:  [3]int{n[w>>2&3], n[w>>5&3], n[w>>8&3]},
			Second: [3]int{2, 4, 8},
			Save:   n[w&3],
			Ahead:  w&0x4000 != 0,
		}
		for i := range 3 {
			if w&[]int{0x10, 0x80, 0x400}[i] != 0 {
				want.Second[i] = 1
			}
		}
		if x != want {
			t.Fatalf("%04x %v", w, x)
		}
	}
}

func TestCost(t *testing.T) {
	r := rand.New(rand.NewSource(2))
	for _, a := range addresses() {
		x := bus.Control(uint16(r.Uint32()))
		region, _ := bus.Map(a)
		for _, width := range []int{1, 2, 4, 0, 3, 8, -4, math.MaxInt} {
			for _, class := range []int{api.ClassN, api.ClassS, api.ClassI, -1, 9} {
				want, word := 1, width == 4
				switch {
				case region == api.RegWork && word:
					want = 6
				case region == api.RegWork:
					want = 3
				case (region == api.RegPal || region == api.RegVram) && word:
					want = 2
				case region == api.RegSave:
					want = 1 + x.Save
				case region == api.RegRom:
					m := []int{0, 0, 1, 1, 2, 2}[a>>24-8]
					want = 1 + x.First[m]
					if class == api.ClassS && a&0x1FFFF != 0 {
						want = 1 + x.Second[m]
					}
					if word {
						want += 1 + x.Second[m]
					}
				}
				if got := x.Cost(a, width, class); got != want {
					t.Fatalf("%08x %d %d: %d, want %d", a, width, class, got, want)
				}
			}
		}
	}
	x := bus.Control(0)
	if x.Cost(0x8000000, 2, api.ClassN) != 5 || x.Cost(0x8000002, 2, api.ClassS) != 3 || x.Cost(0x8000000, 4, api.ClassN) != 8 || x.Cost(0x8020000, 2, api.ClassS) != 5 {
		t.Fatal()
	}
}

func TestTurn(t *testing.T) {
	for i, want := range []uint32{0x12345678, 0x78123456, 0x56781234, 0x34567812} {
		for _, a := range []uint32{0, 4, 0x8000000, 0xFFFFFFFC} {
			if x := bus.Turn(0x12345678, a+uint32(i)); x != want {
				t.Fatalf("%x", x)
			}
		}
	}
}
