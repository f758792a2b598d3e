package beam_test

import (
	"math"
	"math/rand"
	"testing"

	"cameo/api"
	"cameo/beam"
)

func TestExamples(t *testing.T) {
	if line, at := beam.At(1232); line != 1 || at != 0 {
		t.Fatal(line, at)
	}
	if beam.Next(0) != 960 || beam.Next(960) != 1232 || beam.Next(959) != 960 || beam.Next(1231) != 1232 {
		t.Fatal()
	}
	if beam.Status(197120, 0) != 1 || beam.Asks(197120, 8) != 1 || beam.Asks(197120, 0) != 0 {
		t.Fatal()
	}
}

// walk goes through two pictures cycle by cycle, counting.
func walk(f func(now, line, at int)) {
	line, at := 0, 0
	for now := range 2 * api.FrameCycles {
		f(now, line, at)
		if at++; at == 1232 {
			at = 0
			if line++; line == 228 {
				line = 0
			}
		}
	}
}

func TestEveryCycle(t *testing.T) {
	r := rand.New(rand.NewSource(1))
	walk(func(now, line, at int) {
		if l, a := beam.At(now); l != line || a != at {
			t.Fatal(now, l, a)
		}
		next := now - at + 960
		if at >= 960 {
			next = now - at + 1232
		}
		if beam.Next(now) != next {
			t.Fatal(now)
		}
		w := uint16(r.Uint32())
		if r.Intn(2) == 0 {
			w = w&0xFF | uint16(line)<<8
		}
		status := w & 0xFF38
		if line >= 160 && line != 227 {
			status |= 1
		}
		if at >= 960 {
			status |= 2
		}
		if int(w>>8) == line {
			status |= 4
		}
		if x := beam.Status(now, w); x != status {
			t.Fatalf("%d %04x %04x", now, w, x)
		}
		asks := uint16(0)
		if at == 0 && line == 160 && w&8 != 0 {
			asks |= 1
		}
		if at == 960 && w&16 != 0 {
			asks |= 2
		}
		if at == 0 && line == int(w>>8) && w&32 != 0 {
			asks |= 4
		}
		if x := beam.Asks(now, w); x != asks {
			t.Fatalf("%d %04x %04x", now, w, x)
		}
	})
}

func TestNothingHappensBetween(t *testing.T) {
	for _, w := range []uint16{0xA038, 0x0038, 0xE338, 0xFFFF} {
		for from := 0; from < api.FrameCycles+5000; from = beam.Next(from) {
			status := beam.Status(from, w)
			for now := from + 1; now < beam.Next(from); now++ {
				if beam.Status(now, w) != status || beam.Asks(now, w) != 0 {
					t.Fatal(now)
				}
			}
		}
	}
}

func TestFarAway(t *testing.T) {
	for _, now := range []int{-1, -1232, math.MinInt} {
		if l, a := beam.At(now); l != 0 || a != 0 || beam.Next(now) != 960 || beam.Status(now, 0) != 4 || beam.Asks(now, 0x20) != 4 {
			t.Fatal(now)
		}
	}
	far := api.MaxCycles / api.FrameCycles * api.FrameCycles
	if l, a := beam.At(far + 5*1232 + 7); l != 5 || a != 7 || beam.Next(far+1) != far+960 {
		t.Fatal(l, a)
	}
	beam.Next(math.MaxInt)
	beam.At(math.MaxInt)
	beam.Status(math.MaxInt, 0)
	beam.Asks(math.MaxInt, 0)
}
