package bios

// The kinds of streams.
const (
	pieces      = 0x10
	nibbleTree  = 0x24
	byteTree    = 0x28
	runs        = 0x30
	differences = 0x81
)

// A stream is taken apart from one place to another.
type stream struct {
	memory Memory
	from   uint32 // the byte that comes next
	to     uint32
	size   int
	out    []byte // all bytes so far: pieces come again
}

// full tells whether all bytes are there.
func (s *stream) full() bool { return len(s.out) == s.size }

// next takes a byte of the stream.
func (s *stream) next() byte {
	x := s.memory.Read(s.from, 1)
	s.from++
	return byte(x)
}

// give outputs a byte, if there is one left to give; every second one completes a halfword.
func (s *stream) give(b byte) {
	if s.full() {
		return
	}
	s.out = append(s.out, b)
	if n := len(s.out); n%2 == 0 {
		s.put(n-2, uint32(s.out[n-2])|uint32(b)<<8)
	}
}

// put writes a halfword where byte n belongs.
func (s *stream) put(n int, x uint32) { s.memory.Write(s.to+uint32(n), 2, x) }

// finish writes an odd last byte.
func (s *stream) finish() {
	if n := len(s.out); n%2 == 1 {
		s.put(n-1, uint32(s.out[n-1]))
	}
}

// Unpack: a stream taken apart: 10 pieces that were there already, 20 a tree of codes, 30 bytes that come again and again, 80 and the like differences; how many bytes came of it.
func Unpack(m Memory, from, to uint32) int {
	if m == nil {
		return 0
	}
	from &^= 3
	head := m.Read(from, 4)
	s := &stream{memory: m, from: from + 4, to: to &^ 1, size: int(head >> 8 & 0xFFFF)}
	if s.full() {
		return 0
	}
	switch head & 0xFF {
	case pieces:
		s.pieces()
	case runs:
		s.runs()
	case nibbleTree:
		s.tree(true)
	case byteTree:
		s.tree(false)
	case differences:
		s.differences()
	default:
		return 0
	}
	s.finish()
	return len(s.out)
}

// pieces takes bytes, and pieces of what is there already.
func (s *stream) pieces() {
	for !s.full() {
		flags := s.next()
		for bit := 7; bit >= 0 && !s.full(); bit-- {
			if flags>>bit&1 == 0 {
				s.give(s.next())
				continue
			}
			a, b := s.next(), s.next()
			s.again(int(a>>4)+3, int(a&15)<<8+int(b)+1)
		}
	}
}

// again outputs so many bytes, each as the one so far back.
func (s *stream) again(count, back int) {
	for range count {
		at := len(s.out) - back
		if at < 0 {
			s.give(0)
		} else {
			s.give(s.out[at])
		}
	}
}

// runs takes bytes that come again and again, and others.
func (s *stream) runs() {
	for !s.full() {
		f := int(s.next())
		if f >= 128 {
			b := s.next()
			for range f - 128 + 3 {
				s.give(b)
			}
			continue
		}
		for range f + 1 {
			if s.full() {
				return
			}
			s.give(s.next())
		}
	}
}

// differences takes bytes that tell how far the next one lies from the last one.
func (s *stream) differences() {
	last := byte(0)
	for !s.full() {
		last += s.next()
		s.give(last)
	}
}

// A walker goes down the tree by the bits of the stream.
type walker struct {
	memory Memory
	root   uint32
	node   uint32
}

// step goes one bit down; true: a value was reached, and the way begins anew.
func (w *walker) step(bit uint32) (byte, bool) {
	v := w.memory.Read(w.node, 1) & 0xFF
	w.node = w.node&^1 + 2*(v&63) + 2 + bit
	if v>>(7-bit)&1 == 0 {
		return 0, false
	}
	value := w.memory.Read(w.node, 1)
	w.node = w.root
	return byte(value), true
}

// tree takes the codes of bytes, or of their halves.
func (s *stream) tree(halves bool) {
	const most = 65536 // words
	size := uint32(s.next())
	w := &walker{memory: s.memory, root: s.from, node: s.from}
	at := (s.from + 2*size + 1 + 3) &^ 3
	low, waits := byte(0), false
	for range most {
		word := s.memory.Read(at, 4)
		at += 4
		for bit := 31; bit >= 0; bit-- {
			v, ok := w.step(word >> bit & 1)
			switch {
			case !ok:
			case !halves:
				s.give(v)
			case waits:
				s.give(low + v<<4)
				waits = false
			default:
				low, waits = v&15, true
			}
			if s.full() {
				return
			}
		}
	}
}
