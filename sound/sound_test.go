package sound_test

import (
	"math"
	"math/rand"
	"testing"

	"cameo/api"
	"cameo/psg"
	"cameo/sound"
)

func TestTheExample(t *testing.T) {
	u := sound.New()
	u.Write(0, 2, 0x80)
	u.Write(0, 1, 0x0304)
	u.Feed(0, 0x10)
	if u.Over(0, 0) != 3 { // both go by timer 0
		t.Fatal()
	}
	s := u.Take(1023)
	if len(s) != 1 || s[0] != (api.Sample{L: 2048, R: 2048}) {
		t.Fatal(s)
	}
}

func TestRegisters(t *testing.T) {
	u := sound.New()
	if u.Read(0, 3) != 0x200 || u.Read(0, 0) != 0 || u.Read(0, 1) != 0 || u.Read(0, 2) != 0 {
		t.Fatal()
	}
	for reg, want := range []uint16{0xFF77, 0x770F, 0x80, 0x3FE} {
		u.Write(0, reg, 0xFFFF)
		if x := u.Read(0, reg); x != want {
			t.Fatalf("%d %04x", reg, x)
		}
		for k := range 16 {
			u.Write(0, reg, 1<<k)
			if x := u.Read(0, reg); x != 1<<k&want {
				t.Fatalf("%d %04x", reg, x)
			}
		}
		u.Write(0, reg, 0)
		if u.Read(0, reg) != 0 {
			t.Fatal(reg)
		}
	}
	for _, reg := range []int{-1, 4, math.MaxInt, math.MinInt} {
		u.Write(0, reg, 0xFFFF)
		if u.Read(0, reg) != 0 {
			t.Fatal(reg)
		}
	}
	u.Psg().Write(0, 3, 0xF000)
	u.Psg().Write(0, 4, 0x8000)
	if u.Read(0, 2) != 2 {
		t.Fatal(u.Read(0, 2))
	}
	u.Write(0, 2, 0x80)
	if u.Read(0, 2) != 0x82 {
		t.Fatal()
	}
}

// What is read is what is on at that cycle.
func TestReadGoesOn(t *testing.T) {
	u := sound.New()
	u.Psg().Write(0, 3, 0xF03F)
	u.Psg().Write(0, 4, 0xC000)
	if u.Read(2*32768-1, 2) != 2 || u.Read(2*32768, 2) != 0 {
		t.Fatal()
	}
	if s := u.Take(2 * 32768); len(s) != 128 {
		t.Fatal(len(s))
	}
}

func TestBuffers(t *testing.T) {
	u := sound.New()
	for _, i := range []int{-1, 2, math.MaxInt} {
		u.Feed(i, 1)
		if u.Waiting(i) != 0 {
			t.Fatal()
		}
	}
	u.Write(0, 2, 0x80)
	u.Write(0, 1, 0x0304)
	u.Feed(0, 0x04030201)
	for range 9 {
		u.Feed(0, 0x08070605)
		u.Feed(1, 0)
	}
	if u.Waiting(0) != 32 || u.Waiting(1) != 32 {
		t.Fatal(u.Waiting(0))
	}
	now := 0
	for n := 31; n >= -2; n-- {
		hungry := u.Over(now, 0)
		want := 0
		if n <= 16 {
			want = 3
		}
		if hungry != want || u.Waiting(0) != max(n, 0) {
			t.Fatal(n, hungry, u.Waiting(0))
		}
		now += 512
		s := u.Take(now)
		x := 32 - n
		if x > 4 {
			x = 5 + (x-1)%4
		}
		if n < 0 {
			x = 8 // none waits: the last one goes on
		}
		if len(s) != 1 || s[0].L != int16(x*4*32) {
			t.Fatal(n, s, x)
		}
	}
	// Only as far as there is room.
	u.Write(now, 1, 0x8304)
	if u.Waiting(1) != 0 || u.Waiting(0) != 0 {
		t.Fatal()
	}
	for range 8 {
		u.Feed(0, 0)
	}
	u.Over(now, 0)
	u.Over(now, 0)
	u.Feed(0, 0x01020304)
	if u.Waiting(0) != 32 {
		t.Fatal()
	}
	u.Write(now, 1, 0x0B04)
	if u.Waiting(0) != 0 {
		t.Fatal()
	}
	if s := u.Take(now + 512); s[0] != (api.Sample{}) {
		t.Fatal("an emptied buffer gives 0", s)
	}
}

func TestWhichTimer(t *testing.T) {
	for word := range 4 {
		for timer := -1; timer < 4; timer++ {
			for _, master := range []uint16{0, 0x80} {
				u := sound.New()
				u.Write(0, 2, master)
				u.Write(0, 1, uint16(word&1<<10|word&2<<13))
				u.Feed(0, 1)
				u.Feed(1, 1)
				want := 0
				for i := range 2 {
					if word>>i&1 == timer && master != 0 {
						want |= 1 << i
					}
				}
				if h := u.Over(0, timer); h != want {
					t.Fatal(word, timer, h)
				}
				for i := range 2 {
					if u.Waiting(i) != 4-want>>i&1 {
						t.Fatal(word, timer, i)
					}
				}
			}
		}
	}
}

// side is one side of a sample by the chapter's words.
func side(out [4]int, current [2]int, mixer, word uint16, bias, k int) int16 {
	sum := 0
	for i := range 4 {
		if mixer>>(8+4*k+i)%2 == 1 {
			sum += out[i]
		}
	}
	sum = sum * (int(mixer>>(4*k)%8) + 1) / []int{4, 2, 1, 1}[word%4]
	for i := range 2 {
		if word>>(8+4*i+k)%2 == 1 {
			sum += current[i] * (2 + 2*int(word>>(2+i)%2))
		}
	}
	sum += bias
	sum = max(sum, 0)
	sum = min(sum, 1023)
	return int16((sum - bias) * 32)
}

func TestSamples(t *testing.T) {
	for seed := range 400 {
		r := rand.New(rand.NewSource(int64(seed)))
		u, p := sound.New(), psg.New()
		var current [2]int
		var mixer, word uint16
		master, bias := false, 0x200
		now, last := 0, 0
		var want []api.Sample
		run := func(to int) {
			for at := last + 512 - last%512; at <= to; at += 512 {
				p.Run(at)
				s := api.Sample{}
				if master {
					s = api.Sample{L: side(p.Out(), current, mixer, word, bias, 1), R: side(p.Out(), current, mixer, word, bias, 0)}
				}
				want = append(want, s)
			}
			p.Run(to)
			last = to
		}
		for range 60 {
			now += r.Intn(900)
			if r.Intn(4) == 0 {
				now += 512 - now%512
			}
			run(now)
			x := uint16(r.Uint32())
			switch r.Intn(6) {
			case 0:
				u.Run(now)
				reg := r.Intn(10)
				if reg == 5 {
					x |= 0x80
				}
				u.Psg().Write(now, reg, x)
				p.Write(now, reg, x)
			case 1:
				u.Write(now, 0, x)
				mixer = x & 0xFF77
			case 2:
				if r.Intn(4) > 0 {
					x &= 0x770F
				}
				u.Write(now, 1, x)
				word = x & 0x770F
				for i := range 2 {
					if x>>(11+4*i)%2 == 1 {
						current[i] = 0
						if u.Waiting(i) != 0 {
							t.Fatal()
						}
					}
				}
			case 3:
				u.Write(now, 2, x|uint16(r.Intn(2))<<7)
				master = u.Read(now, 2)>>7 == 1
				if r.Intn(3) == 0 {
					u.Write(now, 3, x)
					bias = int(x & 0x3FE)
				}
			case 4:
				timer, b := r.Intn(2), byte(r.Uint32())
				for i := range 2 {
					u.Feed(i, uint32(b)*0x01010101)
				}
				before := [2]int{u.Waiting(0), u.Waiting(1)}
				u.Over(now, timer)
				for i := range 2 {
					if master && int(word>>(10+4*i)%2) == timer && before[i] == 4 {
						current[i] = int(int8(b))
					}
				}
				u.Write(now, 1, word|0x8800) // emptied, so that the model need not wait
				current = [2]int{}
			case 5:
				i, b := r.Intn(16), byte(x)
				u.Run(now)
				u.Psg().Bank(now, i, b)
				p.Bank(now, i, b)
			}
			if u.Run(now); u.Psg().Out() != p.Out() {
				t.Fatal(seed, "the channels aren't at this cycle")
			}
			if r.Intn(5) == 0 {
				run(now)
				got := u.Take(now)
				if len(got) != len(want) {
					t.Fatal(seed, len(got), len(want))
				}
				for i := range got {
					if got[i] != want[i] {
						t.Fatal(seed, i, got[i], want[i])
					}
				}
				want = nil
			}
		}
	}
}

func TestCurrentBytesAreSigned(t *testing.T) {
	for b := range 256 {
		u := sound.New()
		u.Write(0, 2, 0x80)
		u.Write(0, 1, 0x2100)
		u.Feed(0, uint32(b))
		u.Feed(1, uint32(b))
		u.Over(0, 0)
		s := u.Take(512)[0]
		want := int16(int(int8(b)) * 2 * 32)
		if s.R != want || s.L != want {
			t.Fatal(b, s)
		}
	}
}

func TestLimits(t *testing.T) {
	for _, x := range []struct {
		bias, b uint16
		want    int16
	}{{0x200, 0x7F, (1023 - 512) * 32}, {0x200, 0x80, -512 * 32}, {0x3FE, 0x7F, 32}, {0, 0x80, 0}, {0, 0x7F, 1016 * 32}, {0x3FE, 0x80, -1022 * 32}} {
		u := sound.New()
		u.Write(0, 2, 0x80)
		u.Write(0, 3, x.bias)
		u.Write(0, 1, 0x330C)
		u.Feed(0, uint32(x.b))
		u.Feed(1, uint32(x.b))
		u.Over(0, 0)
		if s := u.Take(512)[0]; s.L != x.want || s.R != x.want {
			t.Fatal(x, s)
		}
	}
}

func TestTakeInParts(t *testing.T) {
	for seed := range 30 {
		r := rand.New(rand.NewSource(int64(seed)))
		a, b := sound.New(), sound.New()
		for _, u := range []*sound.Unit{a, b} {
			u.Write(0, 2, 0x80)
			u.Write(0, 0, 0xFF77)
			u.Write(0, 1, 2)
			u.Psg().Write(0, 1, 0xF180)
			u.Psg().Write(0, 2, uint16(0x8000|seed*50))
			u.Psg().Write(0, 7, 0x8A00)
			u.Psg().Write(0, 8, 0x8013)
		}
		const end = 300000
		whole := a.Take(end)
		var parts []api.Sample
		for now := 0; now < end; now += r.Intn(2000) {
			if r.Intn(2) == 0 {
				b.Run(now)
			} else {
				parts = append(parts, b.Take(now)...)
			}
		}
		parts = append(parts, b.Take(end)...)
		if len(whole) != end/512 || len(parts) != len(whole) {
			t.Fatal(len(whole), len(parts))
		}
		for i := range whole {
			if whole[i] != parts[i] {
				t.Fatal(seed, i)
			}
		}
		if len(a.Take(end)) != 0 {
			t.Fatal("taken twice")
		}
	}
}

func TestTimesOfSamples(t *testing.T) {
	u := sound.New()
	for _, x := range []struct{ now, n int }{{0, 0}, {511, 0}, {512, 1}, {512, 0}, {1023, 0}, {1024, 1}, {5120, 8}} {
		if s := u.Take(x.now); len(s) != x.n {
			t.Fatal(x, len(s))
		}
	}
	u.Run(math.MaxInt)
	u.Run(math.MinInt)
	if len(u.Take(5120)) != 0 {
		t.Fatal()
	}
}

func TestNoUnit(t *testing.T) {
	var u *sound.Unit
	u.Feed(0, 1)
	u.Write(0, 0, 1)
	u.Run(9)
	if u.Psg() != nil || u.Waiting(0) != 0 || u.Over(0, 0) != 0 || u.Read(0, 3) != 0 || u.Take(9999) != nil {
		t.Fatal()
	}
}
