package bios_test

import (
	"math/rand"
	"slices"
	"testing"

	"cameo/bios"
)

// head makes the word ahead of a stream.
func head(kind byte, size int) []byte {
	return []byte{kind, byte(size), byte(size >> 8), 0xEE}
}

// unpack lays a stream and takes it apart; the bytes behind those of the output must stay.
func unpack(t *testing.T, kind byte, size int, stream []byte) ([]byte, int) {
	t.Helper()
	m := newRAM()
	m.lay(0x1000, append(head(kind, size), stream...)...)
	m.lay(0x80000+uint32(size), 0xAA, 0xAA, 0xAA)
	n := bios.Unpack(m, 0x1003, 0x80001)
	behind := m.take(0x80000+uint32(size), 3)
	if n == size && size%2 == 1 && behind[0] != 0 || n == size && size%2 == 0 && behind[0] != 0xAA || behind[1] != 0xAA {
		t.Fatal("behind the output", kind, size, behind)
	}
	at := uint32(0x80000)
	for _, a := range m.log {
		if a.write {
			if a.addr != at || a.width != 2 || a.x > 0xFFFF {
				t.Fatal(a)
			}
			at += 2
		}
	}
	return m.take(0x80000, n), n
}

// text makes bytes in which much comes again.
func text(r *rand.Rand, n int) []byte {
	var b []byte
	for len(b) < n {
		switch r.Intn(4) {
		case 0:
			x := byte(r.Intn(6))
			for range r.Intn(40) {
				b = append(b, x)
			}
		case 1:
			if len(b) > 0 {
				at := r.Intn(len(b))
				for k := range r.Intn(30) {
					b = append(b, b[at+k%(len(b)-at)])
				}
			}
		default:
			b = append(b, byte(r.Intn(40)))
		}
	}
	return b[:n]
}

// pack10 uses pieces where it finds some.
func pack10(r *rand.Rand, b []byte) []byte {
	var out []byte
	for i := 0; i < len(b); {
		flagsAt := len(out)
		out = append(out, 0)
		for bit := 7; bit >= 0 && i < len(b); bit-- {
			best, back := 0, 0
			for d := 1; d <= 4096 && d <= i+20; d++ {
				n := 0
				for n < 18 && i+n < len(b) && (i+n-d >= 0 && b[i+n-d] == b[i+n] || i+n-d < 0 && b[i+n] == 0) {
					n++
				}
				if n > best {
					best, back = n, d
				}
			}
			if best >= 3 && r.Intn(8) > 0 {
				out[flagsAt] |= 1 << bit
				out = append(out, byte((best-3)<<4|(back-1)>>8), byte(back-1))
				i += best
			} else {
				out = append(out, b[i])
				i++
			}
		}
	}
	return out
}

func pack30(r *rand.Rand, b []byte) []byte {
	var out []byte
	for i := 0; i < len(b); {
		n := 1
		for n < 130 && i+n < len(b) && b[i+n] == b[i] {
			n++
		}
		if n >= 3 {
			out = append(out, byte(128+n-3), b[i])
			i += n
			continue
		}
		n = min(1+r.Intn(128), len(b)-i)
		out = append(append(out, byte(n-1)), b[i:i+n]...)
		i += n
	}
	return out
}

// pack20 builds a tree that is a list: each node has a value on one side.
func pack20(kind byte, b []byte) []byte {
	var values []byte
	add := func(x byte) {
		if !slices.Contains(values, x) {
			values = append(values, x)
		}
	}
	var syms []byte
	for _, x := range b {
		if kind == 0x28 {
			syms = append(syms, x)
		} else {
			syms = append(syms, x&15, x>>4)
		}
	}
	for _, x := range syms {
		add(x)
	}
	for len(values) < 2 {
		add(byte(len(values)) + 9)
	}
	// Node k stands at 2k-1 behind the root, its children follow at once: the value left, the next node right.
	k := len(values) - 1
	tree := make([]byte, 1+2*k)
	for i := range k {
		at := 0
		if i > 0 {
			at = 2 * i
		}
		// The root is alone at 0; children of the node in pair i lie in pair i+1.
		tree[at] = 0x80
		if i == k-1 {
			tree[at] = 0xC0
			tree[2*i+2] = values[i+1]
		}
		tree[2*i+1] = values[i]
	}
	var bits []byte
	for _, x := range syms {
		i := slices.Index(values, x)
		for range min(i, k) {
			bits = append(bits, 1)
		}
		if i < k {
			bits = append(bits, 0)
		}
	}
	out := append([]byte{byte(k)}, tree...)
	for (4+len(out))%4 != 0 {
		out = append(out, 0x77)
	}
	for i := 0; i < len(bits); i += 32 {
		w := uint32(0)
		for n := range 32 {
			w <<= 1
			if i+n < len(bits) {
				w |= uint32(bits[i+n])
			}
		}
		out = append(out, word(int32(w))...)
	}
	return out
}

func pack81(b []byte) []byte {
	var out []byte
	last := byte(0)
	for _, x := range b {
		out = append(out, x-last)
		last = x
	}
	return out
}

func TestStreamsAreRestored(t *testing.T) {
	r := rand.New(rand.NewSource(1))
	for round := range 120 {
		n := 1 + r.Intn(600)
		b := text(r, n)
		for i, s := range [][]byte{pack10(r, b), pack30(r, b), pack81(b), pack20(0x28, b), pack20(0x24, b)} {
			kind := []byte{0x10, 0x30, 0x81, 0x28, 0x24}[i]
			got, k := unpack(t, kind, n, s)
			if k != n || !slices.Equal(got, b) {
				t.Fatalf("%d %x: %d of %d", round, kind, k, n)
			}
		}
	}
}

func TestStopsAtItsSize(t *testing.T) {
	for _, x := range []struct {
		kind   byte
		size   int
		stream []byte
		want   []byte
		reads  int // bytes of the stream
	}{
		{0x10, 3, []byte{0x40, 9, 0xF0, 0x00, 7, 7}, []byte{9, 9, 9}, 4},
		{0x10, 2, []byte{0x80, 0xFF, 0xFF, 5}, []byte{0, 0}, 3},
		{0x10, 4, []byte{0x20, 1, 2, 0x00, 0x02, 7}, []byte{1, 2, 0, 1}, 5},
		{0x10, 8, []byte{0, 1, 2, 3, 4, 5, 6, 7, 8, 9}, []byte{1, 2, 3, 4, 5, 6, 7, 8}, 9},
		{0x30, 4, []byte{0xFF, 6, 1}, []byte{6, 6, 6, 6}, 2},
		{0x30, 2, []byte{0x7F, 6, 1, 2}, []byte{6, 1}, 3},
		{0x30, 4, []byte{0x00, 6, 0x80, 5, 9}, []byte{6, 5, 5, 5}, 4},
		{0x81, 3, []byte{250, 10, 255, 4}, []byte{250, 4, 3}, 3},
	} {
		m := newRAM()
		m.lay(0x100, append(head(x.kind, x.size), x.stream...)...)
		if n := bios.Unpack(m, 0x100, 0x900); n != x.size || !slices.Equal(m.take(0x900, n), x.want) {
			t.Fatal(x, n, m.take(0x900, n))
		}
		reads := 0
		for _, a := range m.log[1:] {
			if !a.write {
				if a.addr != 0x104+uint32(reads) || a.width != 1 {
					t.Fatal(x, a)
				}
				reads++
			}
		}
		if reads != x.reads {
			t.Fatal(x, reads)
		}
	}
}

func TestOtherKindsAndNothing(t *testing.T) {
	for kind := range 256 {
		m := newRAM()
		m.lay(0x100, append(head(byte(kind), 0), 1, 2, 3, 4)...)
		if n := bios.Unpack(m, 0x100, 0x900); n != 0 || len(m.log) != 1 {
			t.Fatal(kind, n, m.log)
		}
		switch kind {
		case 0x10, 0x24, 0x28, 0x30, 0x81:
			continue
		}
		m.lay(0x100, head(byte(kind), 9)...)
		if n := bios.Unpack(m, 0x100, 0x900); n != 0 || len(m.log) != 2 {
			t.Fatal(kind, n)
		}
	}
}

// The order of all accesses, where the output is written over the stream.
func TestReadWhenNeeded(t *testing.T) {
	m := newRAM()
	m.lay(0x100, append(head(0x81, 4), 1, 1, 1, 1)...)
	if n := bios.Unpack(m, 0x100, 0x106); n != 4 {
		t.Fatal(n)
	}
	m.same(t,
		access{false, 0x100, 4, 0xEE000481}, access{false, 0x104, 1, 1}, access{false, 0x105, 1, 1},
		access{true, 0x106, 2, 0x0201}, access{false, 0x106, 1, 1}, access{false, 0x107, 1, 2}, access{true, 0x108, 2, 0x0503},
	)
}

// The tree is read each time: it may change on the way.
func TestTreeIsReadWhenNeeded(t *testing.T) {
	m := newRAM()
	m.lay(0x100, append(head(0x28, 3), 1, 0xC0, 0x11, 0x22)...)
	m.lay(0x108, 0, 0, 0, 0x40) // bits 0, 1, 0 and so on
	if n := bios.Unpack(m, 0x100, 0x106); n != 3 {
		t.Fatal(n)
	}
	m.same(t,
		access{false, 0x100, 4, 0xEE000328}, access{false, 0x104, 1, 1}, access{false, 0x108, 4, 0x40000000},
		access{false, 0x105, 1, 0xC0}, access{false, 0x106, 1, 0x11},
		access{false, 0x105, 1, 0xC0}, access{false, 0x107, 1, 0x22}, access{true, 0x106, 2, 0x2211},
		access{false, 0x105, 1, 0xC0}, access{false, 0x106, 1, 0x11}, access{true, 0x108, 2, 0x11},
	)
}

// A tree that leads nowhere ends all the same: at most 65536 words are read.
func TestEndlessTree(t *testing.T) {
	m := newRAM()
	m.lay(0x100, append(head(0x28, 9), 0)...)
	if n := bios.Unpack(m, 0x100, 0x900); n != 0 {
		t.Fatal(n)
	}
	words := 0
	for _, a := range m.log[1:] {
		if a.width == 4 {
			words++
		}
	}
	if words != 65536 {
		t.Fatal(words)
	}
}

// The places of nodes: by the node's own place without its lowest bit.
func TestNodePlaces(t *testing.T) {
	for _, odd := range []uint32{0, 1} {
		m := newRAM()
		// The root at 105 leads right to 107, or left to 106, each a node with a distance of 3.
		m.lay(0x100, append(head(0x28, 1), 9, 0x00, 0x43, 0x43)...)
		p := 0x106 + odd
		m.lay(p, 0xC3)
		m.lay(0x106+6+2, 0x55, 0x66)
		m.lay(0x118, 0, 0, 0, byte(odd<<7|0x40))
		if n := bios.Unpack(m, 0x100, 0x900); n != 1 || m.bytes[0x900] != 0x66 {
			t.Fatal(odd, n, m.bytes[0x900])
		}
	}
}

func TestAddressesGoAround(t *testing.T) {
	m := newRAM()
	m.lay(0xFFFFFFFC, append(head(0x81, 3), 1, 1, 1)...)
	if n := bios.Unpack(m, 0xFFFFFFFF, 0xFFFFFFFF); n != 3 {
		t.Fatal(n)
	}
	if m.bytes[0xFFFFFFFE] != 1 || m.bytes[0xFFFFFFFF] != 2 || m.bytes[0] != 3 || m.bytes[1] != 0 {
		t.Fatal()
	}
}
