package seal_test

import (
	"hash/crc32"
	"math"
	"math/rand"
	"strings"
	"testing"

	"cameo/api"
	"cameo/seal"
)

func put(at int, s string) api.Command { return api.Command{Kind: api.CmdPut, Addr: at, Data: s} }
func erase(at int) api.Command         { return api.Command{Kind: api.CmdErase, Addr: at} }

var blank = api.Command{Kind: api.CmdBlank}

func random(r *rand.Rand, n int) string {
	b := make([]byte, n)
	r.Read(b)
	return string(b)
}

func TestSum(t *testing.T) {
	r := rand.New(rand.NewSource(1))
	if seal.Sum("") != 0 || seal.Sum("123456789") != 0xCBF43926 {
		t.Fatal()
	}
	for n := range 300 {
		s := random(r, n)
		if seal.Sum(s) != crc32.ChecksumIEEE([]byte(s)) {
			t.Fatal(n)
		}
	}
}

func word(x uint32) string {
	return string([]byte{byte(x), byte(x >> 8), byte(x >> 16), byte(x >> 24)})
}

func TestWrapAndOpen(t *testing.T) {
	r := rand.New(rand.NewSource(2))
	for n := range 60 {
		for _, seq := range []uint32{0, 1, 0x01020304, math.MaxUint32} {
			body := random(r, n)
			s, e := seal.Wrap(seq, body)
			if n > 51 {
				if s != "" || e != api.ErrLong {
					t.Fatal(n, s, e)
				}
				continue
			}
			text := word(seq) + string([]byte{byte(n)}) + body + strings.Repeat("\x00", 51-n)
			if s != text+word(crc32.ChecksumIEEE([]byte(text)))+word(seq) || e != api.OK {
				t.Fatalf("%q %d", s, e)
			}
			if q, b, e := seal.Open(s); q != seq || b != body || e != api.OK {
				t.Fatal(q, b, e)
			}
		}
	}
}

// sector makes a sector whose number and checksum are right.
func sector(text string) string {
	return text + word(crc32.ChecksumIEEE([]byte(text))) + text[:4]
}

func TestOpenRejectsInOrder(t *testing.T) {
	good, _ := seal.Wrap(7, "abc")
	for _, x := range []struct {
		s    string
		want api.Errno
	}{
		{"", api.ErrForm},
		{good[:63], api.ErrForm},
		{good + "x", api.ErrForm},
		{"\x08" + good[1:], api.ErrTorn},
		{good[:60] + "\x08" + good[61:], api.ErrTorn},
		{good[:63] + "\x01", api.ErrTorn},
		{"\x01" + good[1:60] + "\x01" + good[61:], api.ErrSum},
		{good[:5] + "b" + good[6:], api.ErrSum},
		{good[:59] + "\x00" + good[60:], api.ErrSum},
		{good[:20] + "x" + good[21:], api.ErrSum},
		{sector("\x01\x00\x00\x00\x34" + strings.Repeat("a", 51)), api.ErrForm},
		{sector("\x01\x00\x00\x00\xFF" + strings.Repeat("\x00", 51)), api.ErrForm},
		{sector("\x01\x00\x00\x00\x02ab" + strings.Repeat("\x00", 48) + "x"), api.ErrForm},
		{sector("\x01\x00\x00\x00\x02abc" + strings.Repeat("\x00", 48)), api.ErrForm},
		{sector("\x01\x00\x00\x00\x33" + strings.Repeat("a", 51)), api.OK},
		{sector(strings.Repeat("\x00", 56)), api.OK},
	} {
		q, b, e := seal.Open(x.s)
		if e != x.want || (e != api.OK && (q != 0 || b != "")) {
			t.Fatalf("%q: %d %q %d", x.s, q, b, e)
		}
	}
	if _, _, e := seal.Open(strings.Repeat("\x00", 64)); e != api.ErrSum {
		t.Fatal("a sector of zeros is sealed by nobody", e)
	}
}

func TestOneBitTurned(t *testing.T) {
	s, _ := seal.Wrap(0x80000001, "some body")
	for i := range 64 * 8 {
		b := []byte(s)
		b[i/8] ^= 1 << (i % 8)
		if q, body, e := seal.Open(string(b)); e == api.OK || q != 0 || body != "" {
			t.Fatal(i)
		}
	}
}

func TestTorn(t *testing.T) {
	r := rand.New(rand.NewSource(3))
	for range 200 {
		old, _ := seal.Wrap(r.Uint32(), random(r, r.Intn(52)))
		next, _ := seal.Wrap(r.Uint32(), random(r, r.Intn(52)))
		for k := range 65 {
			s := next[:k] + old[k:]
			_, _, e := seal.Open(s)
			if s == old || s == next {
				if e != api.OK {
					t.Fatal(k, e)
				}
			} else if e != api.ErrTorn {
				t.Fatal(k, e)
			}
		}
	}
}

func TestValidCommands(t *testing.T) {
	for _, x := range []struct {
		c    api.Command
		want bool
	}{
		{put(0, "a"), true}, {put(131071, "abcdefgh"), true}, {put(0, ""), false}, {put(0, "abcdefghi"), false},
		{put(-1, "a"), false}, {put(131072, "a"), false}, {put(math.MaxInt, "a"), false}, {put(math.MinInt, "a"), false},
		{erase(0), true}, {erase(4096), true}, {erase(126976), true}, {erase(131072), false}, {erase(4095), false}, {erase(2048), false},
		{erase(-4096), false}, {api.Command{Kind: api.CmdErase, Data: "a"}, false},
		{blank, true}, {api.Command{Kind: api.CmdBlank, Addr: 4096}, false}, {api.Command{Kind: api.CmdBlank, Data: "a"}, false},
		{api.Command{Kind: api.CmdBlank, Addr: -1}, false},
		{api.Command{}, false}, {api.Command{Kind: 4}, false}, {api.Command{Kind: -1, Data: "a"}, false}, {api.Command{Kind: 257, Data: "a"}, false},
	} {
		want := api.ErrArg
		if x.want {
			want = api.OK
		}
		image := strings.Repeat("x", 131080)
		if e := seal.Check(x.c); e != want {
			t.Fatal(x.c, e)
		}
		if s, e := seal.Command(x.c); e != want || (s == "") == x.want {
			t.Fatal(x.c, s, e)
		}
		if s, e := seal.Record(api.Record{Seq: 1, Cmd: x.c}); e != want || (s == "") == x.want {
			t.Fatal(x.c, s, e)
		}
		if s, e := seal.Apply(image, x.c); e != want || (s == "") == x.want {
			t.Fatal(x.c, e)
		}
	}
}

func TestBodies(t *testing.T) {
	for _, x := range []struct {
		c    api.Command
		body string
	}{
		{put(300, "a"), "\x01\x2C\x01\x00\x00a"},
		{put(131071, "abcdefgh"), "\x01\xFF\xFF\x01\x00abcdefgh"},
		{erase(0x1F000), "\x02\x00\xF0\x01\x00"},
		{blank, "\x03\x00\x00\x00\x00"},
	} {
		if s, e := seal.Command(x.c); s != x.body || e != api.OK {
			t.Fatalf("%q %d", s, e)
		}
		if c, e := seal.Commanded(x.body); c != x.c || e != api.OK {
			t.Fatal(c, e)
		}
		r := api.Record{Seq: 0xFFFFFFFE, Cmd: x.c}
		s, e := seal.Record(r)
		want, _ := seal.Wrap(r.Seq, x.body)
		if s != want || e != api.OK {
			t.Fatal(s, e)
		}
		if back, e := seal.Recorded(s); back != r || e != api.OK {
			t.Fatal(back, e)
		}
	}
	for _, body := range []string{"", "\x01", "\x03\x00\x00\x00", "\x01\x00\x00\x00\x00", "\x01\x00\x00\x00\x00abcdefghi", "\x01\x00\x00\x02\x00a", "\x01\x00\x00\x00\x80a",
		"\x02\x00\x01\x00\x00", "\x02\x00\x10\x00\x00a", "\x03\x01\x00\x00\x00", "\x03\x00\x00\x00\x00\x00", "\x00\x00\x00\x00\x00a", "\x04\x00\x00\x00\x00"} {
		if c, e := seal.Commanded(body); c != (api.Command{}) || e != api.ErrForm {
			t.Fatalf("%q %v %d", body, c, e)
		}
		s, _ := seal.Wrap(1, body)
		if r, e := seal.Recorded(s); r != (api.Record{}) || e != api.ErrForm {
			t.Fatalf("%q %v %d", body, r, e)
		}
	}
	s, _ := seal.Record(api.Record{Seq: 1, Cmd: blank})
	for _, x := range []struct {
		s    string
		want api.Errno
	}{{s[:63], api.ErrForm}, {"\x02" + s[1:], api.ErrTorn}, {s[:5] + "\x04" + s[6:], api.ErrSum}} {
		if r, e := seal.Recorded(x.s); r != (api.Record{}) || e != x.want {
			t.Fatal(r, e)
		}
	}
}

func TestApply(t *testing.T) {
	for _, x := range []struct {
		image string
		c     api.Command
		want  string
	}{
		{"abcd", put(1, "xy"), "axyd"}, {"abcd", put(0, "x"), "xbcd"}, {"abcd", put(2, "xy"), "abxy"}, {"abcd", put(0, "wxyz"), "wxyz"},
		{"abc", blank, "\xFF\xFF\xFF"}, {"", blank, ""},
		{strings.Repeat("a", 8193), erase(4096), strings.Repeat("a", 4096) + strings.Repeat("\xFF", 4096) + "a"},
		{strings.Repeat("a", 4096), erase(0), strings.Repeat("\xFF", 4096)},
	} {
		if s, e := seal.Apply(x.image, x.c); s != x.want || e != api.OK {
			t.Fatalf("%q %v %q %d", x.image, x.c, s, e)
		}
	}
	for _, x := range []struct {
		image string
		c     api.Command
	}{{"abcd", put(3, "xy")}, {"abcd", put(4, "x")}, {"", put(0, "x")}, {strings.Repeat("a", 4095), erase(0)}, {strings.Repeat("a", 8191), erase(4096)}, {"abcd", erase(1)}} {
		if s, e := seal.Apply(x.image, x.c); s != "" || e != api.ErrArg {
			t.Fatal(x.c, s, e)
		}
	}
}
