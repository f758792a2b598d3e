package script_test

import (
	"encoding/hex"
	"fmt"
	"hash/crc32"
	"math/rand"
	"strings"
	"testing"

	"cameo/api"
	"cameo/console"
	"cameo/disk"
	"cameo/save"
	"cameo/script"
)

const loop = "0500a0e3feffffea"

// replies runs lines and gives their replies.
func replies(lines ...string) []string {
	out := script.Run(strings.Join(lines, "\n"))
	if out == "" {
		return nil
	}
	return strings.Split(strings.TrimSuffix(out, "\n"), "\n")
}

func expect(t *testing.T, pairs ...string) {
	t.Helper()
	var lines, want []string
	for i := 0; i < len(pairs); i += 2 {
		lines = append(lines, pairs[i])
		want = append(want, pairs[i+1])
	}
	got := replies(lines...)
	if len(got) != len(want) {
		t.Fatalf("%q", got)
	}
	for i := range got {
		if got[i] != want[i] {
			t.Fatalf("%q: %q, want %q", lines[i], got[i], want[i])
		}
	}
}

func TestTheExamples(t *testing.T) {
	expect(t, "rom "+loop, "ok", "run 30", "ok 60", "reg 0", "ok 5", "run x", "error 270")
	expect(t, "run 1", "error 1", "reg 0", "ok 0", "sync", "error 60", "image", "ok 0 0")
	if out := script.Run("rom " + loop + "\nrun 30"); out != "ok\nok 60\n" {
		t.Fatalf("%q", out)
	}
}

func TestLinesAndWords(t *testing.T) {
	for text, want := range map[string]string{
		"":                       "",
		"\n\n":                   "",
		"   \n":                  "",
		"# run 1":                "",
		"  #":                    "",
		"#x y\nimage":            "ok 0 0\n",
		"  image   ":             "ok 0 0\n",
		"image\n":                "ok 0 0\n",
		"reg   3":                "ok 0\n",
		"reg\t3":                 "error 270\n",
		"image\r":                "error 270\n",
		"\timage":                "error 270\n",
		"image #":                "error 270\n",
		"ima ge":                 "error 270\n",
		"Image":                  "error 270\n",
		"imag":                   "error 270\n",
		"\x00":                   "error 270\n",
		"\xff\xfe \xc3":          "error 270\n",
		"reg 1\u00a0":            "error 270\n",
		"reg\u20001":             "error 270\n",
		"image\ncount\n\n#\nfoo": "ok 0 0\nok 0 0 0\nerror 270\n",
	} {
		if got := script.Run(text); got != want {
			t.Fatalf("%q: %q", text, got)
		}
	}
}

func TestWordsThatDontFit(t *testing.T) {
	const no = "error 270"
	for _, line := range []string{
		"chip", "chip 1 2", "chip x", "chip -1", "chip +1", "chip 123456789", "chip 1x", "chip 0x1", "disk", "disk 1 2", "disk a",
		"rom", "rom 0", "rom 000", "rom 0G", "rom AB", "rom 00 00", "rom g0", "rom 0x", "keys", "keys 1 2", "keys a", "run", "run 1 1", "run 1.0", "reg", "reg 1 1", "reg r1",
		"trace 1", "frames 1", "samples x", "fuel", "fuel 1 2", "fuel -1", "sync 1", "crash", "crash 1", "crash 1 2 3", "crash 1 2 3 4 5", "crash 1 2 x 4", "crash x 2", "image 1", "count 1", "chip １",
	} {
		expect(t, line, no)
	}
	expect(t, "chip 00000001", "ok", "image", fmt.Sprintf("ok 32768 %d", crc32.ChecksumIEEE([]byte(strings.Repeat("\xFF", 32768)))))
	expect(t, "chip 99999999", "error 60", "run 99999999", "error 1", "reg 99999999", "ok 0")
	// A line that is rejected has done nothing.
	expect(t, "chip 1", "ok", "disk 3", "ok", "crash 1 3 0", no, "sync", "ok", "crash 1 3 0 z", no, "sync", "ok", "crash 1 3", "ok", "sync", "ok")
}

func TestLimits(t *testing.T) {
	if got := script.Run(strings.Repeat(" ", api.MaxText)); got != "" {
		t.Fatal(got)
	}
	if got := script.Run(strings.Repeat(" ", api.MaxText+1)); got != "error 2\n" {
		t.Fatal(got)
	}
	if got := script.Run("image" + strings.Repeat("\n", api.MaxLines-1)); got != "ok 0 0\n" {
		t.Fatal(got)
	}
	if got := script.Run("image" + strings.Repeat("\n", api.MaxLines)); got != "error 2\n" {
		t.Fatal(got)
	}
}

func TestNothingCurrent(t *testing.T) {
	expect(t, "keys 1", "ok", "run 0", "error 1", "reg 3", "ok 0", "trace", "ok 0 0", "frames", "ok 0 0", "samples", "ok 0 0", "fuel 3", "ok", "sync", "error 60", "image", "ok 0 0", "count", "ok 0 0 0",
		"disk 3", "error 1", "crash 1 3", "error 10", "crash 0 3", "error 60", "crash 9 3", "error 60", "crash 1 0", "error 1")
	expect(t, "chip 0", "ok", "disk 3", "error 1", "sync", "error 60", "image", "ok 0 0")
	expect(t, "chip 6", "error 60", "chip 1", "ok", "disk 0", "error 1", "disk 1025", "error 1", "sync", "error 60", "disk 1024", "ok", "sync", "ok")
}

// saver is a cartridge that writes 1, 2, 3 and so on to E000001, E000002, E000003 and so on.
const saver = "0e04a0e3" + "011081e2" + "0110c0e7" + "fcffffea"

func TestChipAndDisk(t *testing.T) {
	got := replies("chip 1", "disk 40", "rom "+saver, "run 300", "count", "sync", "count", "run 100", "count", "crash 1 40", "count", "image", "run 100", "reg 1")
	chip, _ := save.New(api.ChipSram, "")
	d, _ := disk.New(2 + 1024 + 40)
	chip.Attach(d, 40)
	rom, _ := hex.DecodeString(saver)
	c, _ := console.New(string(rom), chip)
	c.Run(300)
	n, durable := chip.Count()
	want := []string{"ok", "ok", "ok", fmt.Sprint("ok ", c.Now()), fmt.Sprintf("ok %d %d 0", n, durable)}
	chip.Sync()
	want = append(want, "ok", fmt.Sprintf("ok %d %d 0", n, n))
	c.Run(100)
	m, durable := chip.Count()
	want = append(want, fmt.Sprint("ok ", c.Now()), fmt.Sprintf("ok %d %d 0", m, durable))
	r, _ := save.Recover(d.Crash(nil), api.ChipSram, 40)
	want = append(want, "ok", "ok 0 0 0", fmt.Sprintf("ok 32768 %d", crc32.ChecksumIEEE([]byte(r.Image()))))
	c.Run(100)
	want = append(want, fmt.Sprint("ok ", c.Now()), fmt.Sprint("ok ", c.Register(1)))
	if n == m || r.Image() == chip.Image() {
		t.Fatal("the test shows nothing")
	}
	for i := range want {
		if i >= len(got) || got[i] != want[i] {
			t.Fatalf("%d: %q, want %q", i, got, want)
		}
	}
}

// A crash keeps what is picked, and the chip goes on with the disk that remains.
func TestCrashWithPicks(t *testing.T) {
	image := func(n int) string {
		b := []byte(strings.Repeat("\xFF", 32768))
		for i := range n {
			b[i+1] = byte(i + 1)
		}
		return fmt.Sprintf("ok 32768 %d", crc32.ChecksumIEEE(b))
	}
	for _, x := range []struct {
		picks string
		want  int
	}{{"", 0}, {" 0 64", 1}, {" 0 64 1 64", 2}, {" 1 64 0 64 2 99999999", 3}, {" 1 64", 0}, {" 0 30", 0}, {" 0 64 7 64 8 64", 1}} {
		expect(t, "chip 1", "ok", "disk 50", "ok", "rom "+saver, "ok", "run 100", "ok 115", "count", "ok 3 0 0", "crash 1 50"+x.picks, "ok", "image", image(x.want), "sync", "ok", "crash 1 50", "ok", "image", image(x.want))
	}
	// Where Recover fails the disk that remains is current, and the chip stays.
	expect(t, "chip 1", "ok", "disk 50", "ok", "crash 2 50", "error 1", "image", image(0), "sync", "error 10", "count", "ok 0 0 10", "crash 1 50", "ok", "sync", "ok", "count", "ok 0 0 0")
	// A disk without fuel.
	expect(t, "chip 1", "ok", "disk 50", "ok", "fuel 1", "ok", "rom "+saver, "ok", "run 100", "ok 115", "count", "ok 3 0 10", "sync", "error 10", "reg 1", "ok 3", "crash 1 50 0 64", "ok", "image", image(1))
}

func TestAMachineKeepsItsChip(t *testing.T) {
	blank := fmt.Sprintf("ok 32768 %d", crc32.ChecksumIEEE([]byte(strings.Repeat("\xFF", 32768))))
	expect(t, "chip 1", "ok", "rom "+saver, "ok", "chip 1", "ok", "run 100", "ok 115", "image", blank, "count", "ok 0 0 0")
	// A new machine takes the chip that is current then; what an error leaves is what was there.
	expect(t, "chip 1", "ok", "rom "+saver, "ok", "chip 9", "error 60", "rom 0", "error 270", "run 100", "ok 115", "count", "ok 3 0 0")
}

func sum(words ...uint16) uint32 {
	var b []byte
	for _, x := range words {
		b = append(b, byte(x), byte(x>>8))
	}
	return crc32.ChecksumIEEE(b)
}

// A cartridge that plays a square wave, and shows a color in mode 3.
func TestTraceFramesAndSamples(t *testing.T) {
	var rom []byte
	for _, w := range []uint32{
		0xE3A00301, // r0 = 4000000
		0xE3A01080, // MOV r1, #80
		0xE1C018B4, // STRH r1, [r0, #84]
		0xE3A01CFF, // FF00
		0xE2811077, // FF77
		0xE1C018B0, // STRH r1, [r0, #80]
		0xE3A01CF0,
		0xE1C016B2, // STRH r1, [r0, #62]
		0xE3A01C87,
		0xE1C016B4, // STRH r1, [r0, #64]
		0xE2802401, // r2 = 5000000
		0xE1C210B0, // STRH r1, [r2]
		0xEF060000,
		0xEF020000, // it sleeps, and nobody wakes it
		0xEAFFFFFE,
	} {
		rom = append(rom, byte(w), byte(w>>8), byte(w>>16), byte(w>>24))
	}
	c, _ := console.New(string(rom), nil)
	var lines, want []string
	lines = append(lines, "rom "+hex.EncodeToString(rom))
	want = append(want, "ok")
	r := rand.New(rand.NewSource(1))
	heard, seen := 0, 0
	for range 12 {
		n := r.Intn(90000)
		c.Run(n)
		c.Keys(uint16(n))
		lines = append(lines, fmt.Sprint("run ", n), fmt.Sprint("keys ", n), "trace", "frames", "samples", "trace", "frames", "samples")
		var a, f, s []uint16
		trace, frames, samples := c.Trace(), c.Frames(), c.Samples()
		for _, x := range trace {
			a = append(a, uint16(x.At), uint16(256*x.Owner+x.Width%256), uint16(x.Addr), uint16(x.Addr>>16), uint16(x.Data), uint16(x.Data>>16), uint16(x.Class))
		}
		for _, x := range frames {
			f = append(f, x...)
			seen++
			if x[240] != 0x700 {
				t.Fatalf("%x", x[240])
			}
		}
		for _, x := range samples {
			s = append(s, uint16(x.L), uint16(x.R))
			if x.L != 0 {
				heard++
			}
		}
		want = append(want, fmt.Sprint("ok ", c.Now()), "ok",
			fmt.Sprintf("ok %d %d", len(trace), sum(a...)), fmt.Sprintf("ok %d %d", len(frames), sum(f...)), fmt.Sprintf("ok %d %d", len(samples), sum(s...)),
			"ok 0 0", "ok 0 0", "ok 0 0")
	}
	if heard == 0 || seen == 0 {
		t.Fatal("the test shows nothing", heard, seen)
	}
	got := replies(lines...)
	for i := range want {
		if i >= len(got) || got[i] != want[i] {
			t.Fatalf("%q: %q, want %q", lines[i], got[i], want[i])
		}
	}
}

func TestKeys(t *testing.T) {
	// r1 = the keys, again and again.
	expect(t, "rom 0103a0e3"+"131e80e2"+"b010d1e1"+"fbffffea", "ok", "keys 5", "ok", "run 200", "ok 224", "reg 1", "ok 1018", "keys 65536", "ok", "run 100", "ok 328", "reg 1", "ok 1023", "reg 13", "ok 50364160")
}

func TestAnyText(t *testing.T) {
	r := rand.New(rand.NewSource(2))
	words := []string{"chip", "disk", "rom", "keys", "run", "reg", "trace", "frames", "samples", "fuel", "sync", "crash", "image", "count", "#", "1", "2", "3", "64", "0", "7", "500", loop, saver, "x", "\xff"}
	for range 300 {
		var b strings.Builder
		lines := 0
		for range 20 {
			n := 1 + r.Intn(4)
			comment := false
			for k := range n {
				w := words[r.Intn(len(words))]
				comment = comment || k == 0 && w == "#"
				b.WriteString(w + " ")
			}
			b.WriteString("\n")
			if !comment {
				lines++
			}
		}
		out := script.Run(b.String())
		if strings.Count(out, "\n") != lines || out != script.Run(b.String()) {
			t.Fatalf("%q %q", b.String(), out)
		}
	}
}
