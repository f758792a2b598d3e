package save_test

import (
	"math"
	"math/rand"
	"strings"
	"testing"

	"cameo/api"
	"cameo/disk"
	"cameo/journal"
	"cameo/save"
	"cameo/seal"
)

var sizes = []int{0, 32768, 65536, 131072, 512, 8192}

func chip(t *testing.T, kind int) *save.Backup {
	t.Helper()
	b, e := save.New(kind, "")
	if e != api.OK {
		t.Fatal(e)
	}
	return b
}

func newDisk(t *testing.T, kind, slots int) *disk.Disk {
	t.Helper()
	n, e := journal.Sectors(sizes[kind], slots)
	if e != api.OK {
		t.Fatal(e)
	}
	d, _ := disk.New(n)
	return d
}

func attached(t *testing.T, kind, slots int) (*save.Backup, *disk.Disk) {
	t.Helper()
	b, d := chip(t, kind), newDisk(t, kind, slots)
	if e := b.Attach(d, slots); e != api.OK {
		t.Fatal(e)
	}
	return b, d
}

func counts(t *testing.T, b *save.Backup, n, durable int) {
	t.Helper()
	if x, y := b.Count(); x != n || y != durable {
		t.Fatal(x, y, "want", n, durable)
	}
}

func TestSizesAndNew(t *testing.T) {
	for kind, want := range sizes {
		if n, e := save.Size(kind); n != want || e != api.OK {
			t.Fatal(kind, n, e)
		}
		b, e := save.New(kind, "")
		if e != api.OK || b.Kind() != kind || b.Image() != strings.Repeat("\xFF", want) {
			t.Fatal(kind, e)
		}
		image := strings.Repeat("i", want)
		if b, e = save.New(kind, image); e != api.OK || b.Image() != image || b.Error() != api.OK {
			t.Fatal(kind, e)
		}
		counts(t, b, 0, 0)
		for _, s := range []string{image + "x", strings.Repeat("i", max(1, want-1))} {
			if b, e := save.New(kind, s); b != nil || e != api.ErrArg {
				t.Fatal(kind, e)
			}
		}
		if b.Serial() != (kind == api.ChipEep512 || kind == api.ChipEep8k) {
			t.Fatal(kind)
		}
	}
	for _, kind := range []int{-1, 6, math.MaxInt, math.MinInt} {
		if n, e := save.Size(kind); n != 0 || e != api.ErrKind {
			t.Fatal(kind, e)
		}
		if b, e := save.New(kind, "x"); b != nil || e != api.ErrKind {
			t.Fatal(kind, e)
		}
		if b, e := save.Recover(nil, kind, 0); b != nil || e != api.ErrKind {
			t.Fatal(kind, e)
		}
	}
}

func TestSram(t *testing.T) {
	b, _ := attached(t, api.ChipSram, 9)
	b.Write(5, 7)
	b.Write(0xE008006, 8)
	b.Write(5, 7)
	if b.Read(5) != 7 || b.Read(6) != 8 || b.Read(0x8005) != 7 || b.Read(4) != 0xFF || b.Image()[:8] != "\xFF\xFF\xFF\xFF\xFF\x07\x08\xFF" {
		t.Fatal()
	}
	counts(t, b, 3, 0)
	if b.Bit() != 1 || b.Serial() {
		t.Fatal()
	}
	b.Take(1)
	counts(t, b, 3, 0)
	if b.Sync() != api.OK {
		t.Fatal()
	}
	counts(t, b, 3, 3)
}

func TestFlash(t *testing.T) {
	for _, kind := range []int{api.ChipFlash64, api.ChipFlash128} {
		b, _ := attached(t, kind, 9)
		for _, w := range [][2]int{{0x5555, 0xAA}, {0x2AAA, 0x55}, {0x5555, 0xA0}, {0x10123, 0x5A}} {
			counts(t, b, 0, 0)
			b.Write(uint32(w[0]), byte(w[1]))
		}
		counts(t, b, 1, 0)
		if b.Read(0xE000123) != 0x5A || b.Image()[0x123] != 0x5A || b.Bit() != 1 {
			t.Fatal()
		}
		b.Take(1)
		b.Write(0x123, 0)
		if b.Read(0x123) != 0x5A {
			t.Fatal()
		}
	}
}

// takeUnit sends a write request of one unit to a chip of 64 units.
func takeUnit(b *save.Backup, unit int, data string) {
	bits := []byte{1, 0}
	for i := 5; i >= 0; i-- {
		bits = append(bits, byte(unit>>i)&1)
	}
	for i := range len(data) {
		for k := 7; k >= 0; k-- {
			bits = append(bits, data[i]>>k&1)
		}
	}
	for _, x := range append(bits, 0) {
		b.Take(x)
	}
}

func TestEeprom(t *testing.T) {
	b, _ := attached(t, api.ChipEep512, 9)
	takeUnit(b, 2, "abcdefgh")
	counts(t, b, 1, 0)
	if b.Image()[16:24] != "abcdefgh" || b.Read(16) != 0xFF || b.Bit() != 1 {
		t.Fatal()
	}
	for _, x := range []byte{1, 1, 0, 0, 0, 0, 1, 0, 0} {
		b.Take(x)
	}
	for _, want := range []byte{0, 0, 0, 0, 0, 1, 1, 0, 0, 0, 0, 1} {
		if x := b.Bit(); x != want {
			t.Fatal(x)
		}
	}
	b.Write(16, 0)
	counts(t, b, 1, 0)
	if b.Image()[16:24] != "abcdefgh" {
		t.Fatal()
	}
}

func TestNoMemory(t *testing.T) {
	b := chip(t, api.ChipNone)
	d, _ := disk.New(9)
	if b.Attach(d, 1) != api.ErrKind || b.Sync() != api.ErrKind || b.Read(0) != 0xFF || b.Bit() != 1 || b.Image() != "" {
		t.Fatal()
	}
	b.Write(0, 1)
	b.Take(1)
	counts(t, b, 0, 0)
	if r, e := save.Recover(d, api.ChipNone, 0); r != nil || e != api.ErrKind {
		t.Fatal(e)
	}
	var none *save.Backup
	if none.Kind() != 0 || none.Image() != "" || none.Attach(d, 1) != api.ErrKind || none.Sync() != api.ErrKind || none.Error() != api.OK || none.Read(0) != 0xFF || none.Serial() || none.Bit() != 1 {
		t.Fatal()
	}
	none.Write(0, 1)
	none.Take(1)
	counts(t, none, 0, 0)
}

func TestAttachErrors(t *testing.T) {
	b, _ := attached(t, api.ChipSram, 4)
	b.Write(1, 1)
	b.Sync()
	b.Write(2, 2)
	small, _ := disk.New(10)
	for _, x := range []struct {
		d     *disk.Disk
		slots int
		want  api.Errno
	}{{small, 0, api.ErrArg}, {nil, 1025, api.ErrArg}, {nil, 1, api.ErrDown}, {small, 1, api.ErrArg}} {
		if e := b.Attach(x.d, x.slots); e != x.want {
			t.Fatal(e)
		}
		counts(t, b, 2, 1)
	}
	if b.Sync() != api.OK {
		t.Fatal("the journal that was there goes on")
	}
	counts(t, b, 2, 2)
	d := newDisk(t, api.ChipSram, 4)
	if b.Attach(d, 4) != api.OK {
		t.Fatal()
	}
	counts(t, b, 0, 0)
	r, e := save.Recover(d.Crash(nil), api.ChipSram, 4)
	if e != api.OK || r.Image() != b.Image() {
		t.Fatal(e)
	}
	plain := chip(t, api.ChipSram)
	plain.Write(0, 1)
	counts(t, plain, 1, 0)
	if plain.Sync() != api.ErrKind {
		t.Fatal("no journal")
	}
	counts(t, plain, 1, 0)
}

func TestTheExample(t *testing.T) {
	b, d := attached(t, api.ChipSram, 8)
	b.Write(5, 7)
	b.Write(6, 8)
	if e := b.Sync(); e != api.OK {
		t.Fatal(e)
	}
	counts(t, b, 2, 2)
	b.Write(7, 9)
	counts(t, b, 3, 2)
	d = d.Crash(nil)
	r, e := save.Recover(d, api.ChipSram, 8)
	if e != api.OK || r.Kind() != api.ChipSram || r.Read(5) != 7 || r.Read(6) != 8 || r.Read(7) != 0xFF {
		t.Fatal(e)
	}
	counts(t, r, 0, 0)
	r.Write(8, 1)
	r.Sync()
	counts(t, r, 1, 1)
	again, e := save.Recover(d.Crash(nil), api.ChipSram, 8)
	if e != api.OK || again.Image() != r.Image() {
		t.Fatal(e)
	}
}

func TestNoRoomMeansCheck(t *testing.T) {
	b, d := attached(t, api.ChipSram, 3)
	for i := range 3 {
		b.Write(uint32(i), 1)
		counts(t, b, i+1, 0)
	}
	b.Write(3, 1)
	counts(t, b, 4, 4) // the image was written anew, all four in it
	b.Write(4, 1)
	counts(t, b, 5, 4)
	_, image, cs, _ := journal.Open(d, 32768, 3)
	if image[:6] != "\x01\x01\x01\x01\xFF\xFF" || len(cs) != 1 || cs[0].Addr != 4 {
		t.Fatal(cs)
	}
}

func TestTheFirstErrorStays(t *testing.T) {
	b, d := attached(t, api.ChipSram, 3)
	b.Write(0, 1)
	d.Bad(2+2*512+1, true)
	b.Write(1, 1)
	if b.Error() != api.ErrBad {
		t.Fatal(b.Error())
	}
	d.Bad(2+2*512+1, false)
	pending := d.Pending()
	for range 5 {
		b.Write(2, 2)
	}
	if b.Sync() != api.ErrBad || b.Error() != api.ErrBad || d.Pending() != pending {
		t.Fatal("something was passed on")
	}
	counts(t, b, 7, 0)
	if b.Read(2) != 2 {
		t.Fatal()
	}
	// The error of a Sync, and that of a Check, are kept too.
	b, d = attached(t, api.ChipSram, 3)
	b.Write(0, 1)
	d.Fuel(0)
	if b.Sync() != api.ErrDown || b.Error() != api.ErrDown {
		t.Fatal()
	}
	counts(t, b, 1, 0)
	b, d = attached(t, api.ChipSram, 1)
	d.Bad(1, true)
	b.Write(0, 1)
	b.Write(0, 2)
	if b.Error() != api.ErrBad {
		t.Fatal(b.Error())
	}
	counts(t, b, 2, 0)
	if e := b.Attach(newDisk(t, api.ChipSram, 1), 1); e != api.OK || b.Error() != api.OK {
		t.Fatal(e)
	}
}

func TestRecoverErrors(t *testing.T) {
	b, d := attached(t, api.ChipEep512, 2)
	takeUnit(b, 1, "abcdefgh")
	b.Sync()
	for _, x := range []struct {
		d           *disk.Disk
		kind, slots int
		want        api.Errno
	}{{nil, 4, 2, api.ErrDown}, {d, 4, 0, api.ErrArg}, {d, 4, 99, api.ErrArg}, {d, 1, 2, api.ErrArg}, {newDisk(t, 4, 2), 4, 2, api.ErrForm}} {
		if r, e := save.Recover(x.d, x.kind, x.slots); r != nil || e != x.want {
			t.Fatal(e)
		}
	}
	// A command that doesn't fit into the image.
	j, _, _, _ := journal.Open(d, 512, 2)
	if j.Check(strings.Repeat("q", 512)) != api.OK || j.Append(api.Command{Kind: api.CmdPut, Addr: 512, Data: "x"}) != api.OK {
		t.Fatal()
	}
	before := d.Pending()
	if r, e := save.Recover(d, 4, 2); r != nil || e != api.ErrForm || d.Pending() != before {
		t.Fatal(e)
	}
	// The error of Check; the disk still has what it had.
	b, d = attached(t, api.ChipEep512, 2)
	takeUnit(b, 1, "abcdefgh")
	b.Sync()
	d.Fuel(3)
	if r, e := save.Recover(d, 4, 2); r != nil || e != api.ErrDown {
		t.Fatal(e)
	}
	r, e := save.Recover(d.Crash([]api.Pick{{N: 1, Bytes: 64}}), 4, 2)
	if e != api.OK || r.Image() != b.Image() {
		t.Fatal(e)
	}
}

// drive does something random to a chip, and the same to another one that has no journal.
func drive(r *rand.Rand, both ...*save.Backup) {
	var at, x uint32
	if both[0].Serial() {
		unit, s := r.Intn(64), string([]byte{byte(r.Int()), 2, 3, 4, 5, 6, 7, byte(r.Int())})
		for _, b := range both {
			takeUnit(b, unit, s)
		}
		return
	}
	seq := [][2]uint32{{uint32(r.Intn(9)), uint32(r.Intn(256))}}
	if k := both[0].Kind(); k != api.ChipSram {
		at, x = uint32(r.Intn(9)), uint32(r.Intn(256))
		seq = [][2]uint32{{0x5555, 0xAA}, {0x2AAA, 0x55}, {0x5555, 0xA0}, {at, x}}
		if r.Intn(5) == 0 {
			seq = [][2]uint32{{0x5555, 0xAA}, {0x2AAA, 0x55}, {0x5555, 0x80}, {0x5555, 0xAA}, {0x2AAA, 0x55}, {0x5555, uint32(0x10 + r.Intn(2)*0x20)}}
		}
	}
	for _, w := range seq {
		for _, b := range both {
			b.Write(w[0], byte(w[1]))
		}
	}
}

func TestAnyDiskAnyErrorTheSameMemory(t *testing.T) {
	for seed := range 60 {
		r := rand.New(rand.NewSource(int64(seed)))
		kind := 1 + seed%5
		if kind == api.ChipEep8k {
			kind = api.ChipEep512
		}
		b, d := attached(t, kind, 1+r.Intn(4))
		plain := chip(t, kind)
		d.Fuel(r.Intn(3000))
		for range 40 {
			if r.Intn(6) == 0 {
				b.Sync()
			}
			if r.Intn(9) == 0 {
				d.Bad(r.Intn(3000), true)
			}
			drive(r, b, plain)
			at := uint32(r.Intn(9))
			if b.Read(at) != plain.Read(at) || b.Bit() != plain.Bit() {
				t.Fatal(seed)
			}
		}
		if b.Image() != plain.Image() {
			t.Fatal(seed)
		}
		n, _ := b.Count()
		m, _ := plain.Count()
		if n != m {
			t.Fatal(n, m)
		}
	}
}

func picks(r *rand.Rand, d *disk.Disk) []api.Pick {
	var p []api.Pick
	for _, n := range r.Perm(d.Pending()) {
		p = append(p, api.Pick{N: n, Bytes: r.Intn(130) - 30})
	}
	return p
}

// Recover finds a prefix of the commands, with all durable ones; also behind a Recover that failed.
func TestPrefix(t *testing.T) {
	for seed := range 120 {
		r := rand.New(rand.NewSource(int64(seed)))
		kind := []int{api.ChipEep512, api.ChipSram, api.ChipFlash64, api.ChipEep512, api.ChipEep512}[seed%5]
		slots := 1 + r.Intn(5)
		b, d := attached(t, kind, slots)
		for range 3 {
			base := b.Image()
			images := []string{base}
			n, _ := b.Count()
			d.Fuel(r.Intn(60 + sizes[kind]/16))
			for range 12 {
				drive(r, b)
				if m, _ := b.Count(); m > n {
					n = m
					images = append(images, b.Image())
				}
				if r.Intn(4) == 0 {
					b.Sync()
				}
			}
			_, durable := b.Count()
			images = images[min(durable, len(images)-1):]
			for {
				d = d.Crash(picks(r, d))
				d.Fuel(r.Intn(3 * sizes[kind] / 64))
				next, e := save.Recover(d, kind, slots)
				if e == api.OK {
					b = next
					break
				}
				if e != api.ErrDown {
					t.Fatal(seed, e)
				}
			}
			found := false
			for _, s := range images {
				found = found || s == b.Image()
			}
			if !found {
				t.Fatal(seed, "no prefix")
			}
			if again, _, _, _ := journal.Open(d, sizes[kind], slots); again == nil {
				t.Fatal(seed)
			}
		}
	}
}

func TestSyncKeepsExactlyTheMemory(t *testing.T) {
	for seed := range 20 {
		r := rand.New(rand.NewSource(int64(seed)))
		kind := []int{api.ChipSram, api.ChipFlash64, api.ChipFlash128, api.ChipEep512}[seed%4]
		b, d := attached(t, kind, 3)
		for range r.Intn(20) {
			drive(r, b)
		}
		if b.Sync() != api.OK {
			t.Fatal()
		}
		next, e := save.Recover(d.Crash(picks(r, d)), kind, 3)
		if e != api.OK || next.Image() != b.Image() {
			t.Fatal(seed, e)
		}
	}
}

// An erasure is one command: all of it survives, or nothing.
func TestErasureIsWhole(t *testing.T) {
	for keep := range 65 {
		b, d := attached(t, api.ChipFlash64, 2)
		image := b.Image()
		for _, w := range [][2]uint32{{0x5555, 0xAA}, {0x2AAA, 0x55}, {0x5555, 0xA0}, {7, 1}} {
			b.Write(w[0], byte(w[1]))
		}
		b.Sync()
		before, _ := seal.Apply(image, api.Command{Kind: api.CmdPut, Addr: 7, Data: "\x01"})
		for _, w := range [][2]uint32{{0x5555, 0xAA}, {0x2AAA, 0x55}, {0x5555, 0x80}, {0x5555, 0xAA}, {0x2AAA, 0x55}, {0, 0x30}} {
			b.Write(w[0], byte(w[1]))
		}
		next, e := save.Recover(d.Crash([]api.Pick{{N: 0, Bytes: keep}}), api.ChipFlash64, 2)
		want := before
		if keep > 60 { // what is missing then are zeros, and zeros lie there
			want = image
		}
		if e != api.OK || next.Image() != want {
			t.Fatal(keep, e)
		}
	}
}
