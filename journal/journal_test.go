package journal_test

import (
	"math"
	"math/rand"
	"strings"
	"testing"

	"cameo/api"
	"cameo/disk"
	"cameo/journal"
	"cameo/seal"
)

func put(at int, s string) api.Command { return api.Command{Kind: api.CmdPut, Addr: at, Data: s} }

func newDisk(t *testing.T, size, slots int) *disk.Disk {
	t.Helper()
	n, e := journal.Sectors(size, slots)
	if e != api.OK {
		t.Fatal(e)
	}
	d, e := disk.New(n)
	if e != api.OK {
		t.Fatal(e)
	}
	return d
}

func format(t *testing.T, image string, slots int) (*disk.Disk, *journal.Journal) {
	t.Helper()
	d := newDisk(t, len(image), slots)
	j, e := journal.Format(d, image, slots)
	if e != api.OK || j.Left() != slots {
		t.Fatal(e)
	}
	return d, j
}

// kept picks all pending writes whole.
func kept(d *disk.Disk) []api.Pick {
	var p []api.Pick
	for i := range d.Pending() {
		p = append(p, api.Pick{N: i, Bytes: api.Sector})
	}
	return p
}

func sector(t *testing.T, d *disk.Disk, i int) string {
	t.Helper()
	s, e := d.Read(i)
	if e != api.OK {
		t.Fatal(i, e)
	}
	return s
}

func zeros(n int) string { return strings.Repeat("\x00", n) }

func TestSectors(t *testing.T) {
	for _, x := range []struct{ size, slots, want int }{{128, 3, 9}, {64, 1, 5}, {131072, 1024, 2 + 4096 + 1024}, {512, 10, 28}} {
		if n, e := journal.Sectors(x.size, x.slots); n != x.want || e != api.OK {
			t.Fatal(x, n, e)
		}
	}
	for _, x := range []struct{ size, slots int }{{0, 1}, {-64, 1}, {63, 1}, {65, 1}, {131136, 1}, {math.MaxInt, 1}, {math.MinInt, 1}, {64, 0}, {64, -1}, {64, 1025}, {64, math.MaxInt}, {64, math.MinInt}} {
		if n, e := journal.Sectors(x.size, x.slots); n != 0 || e != api.ErrArg {
			t.Fatal(x, n, e)
		}
		if j, e := journal.Format(nil, zeros(max(0, min(x.size, 200000))), x.slots); j != nil || e != api.ErrArg {
			t.Fatal(x, e)
		}
		if j, s, c, e := journal.Open(nil, x.size, x.slots); j != nil || s != "" || len(c) != 0 || e != api.ErrArg {
			t.Fatal(x, e)
		}
	}
}

func TestCommonErrors(t *testing.T) {
	if _, e := journal.Format(nil, zeros(64), 1); e != api.ErrDown {
		t.Fatal(e)
	}
	if _, _, _, e := journal.Open(nil, 64, 1); e != api.ErrDown {
		t.Fatal(e)
	}
	small, _ := disk.New(4)
	if _, e := journal.Format(small, zeros(64), 1); e != api.ErrArg {
		t.Fatal(e)
	}
	if small.Pending() != 0 {
		t.Fatal("it was written")
	}
	if _, _, _, e := journal.Open(small, 64, 1); e != api.ErrArg {
		t.Fatal(e)
	}
	small.Crash(nil)
	if _, e := journal.Format(small, zeros(64), 1); e != api.ErrDown {
		t.Fatal(e)
	}
	if _, _, _, e := journal.Open(small, 64, 1); e != api.ErrDown {
		t.Fatal(e)
	}
}

func TestFormatLaysAllOut(t *testing.T) {
	image := strings.Repeat("a", 64) + strings.Repeat("b", 64)
	d, _ := disk.New(12)
	for i := range 12 {
		d.Write(i, strings.Repeat("j", 64))
	}
	d.Sync()
	if _, e := journal.Format(d, image, 3); e != api.OK {
		t.Fatal(e)
	}
	m, _ := seal.Wrap(1, "M\x00")
	want := []string{m, zeros(64), image[:64], image[64:], "", "", zeros(64), zeros(64), zeros(64)}
	for i, w := range want {
		if w != "" && sector(t, d, i) != w {
			t.Fatal(i)
		}
	}
	for _, i := range []int{4, 5, 9, 10, 11} {
		if sector(t, d, i) != strings.Repeat("j", 64) {
			t.Fatal("written without need", i)
		}
	}
	if d.Pending() != 0 {
		t.Fatal(d.Pending())
	}
}

// Format of an image of 2 sectors with 3 slots: 5 writes, a sync, 2 writes, a sync, 1 write, a sync.
func TestFormatStepByStep(t *testing.T) {
	pending := []int{0, 1, 2, 3, 4, 5, 0, 1, 2, 0, 1}
	for fuel, want := range pending {
		d := newDisk(t, 128, 3)
		d.Fuel(fuel)
		if j, e := journal.Format(d, zeros(128), 3); j != nil || e != api.ErrDown || d.Pending() != want {
			t.Fatal(fuel, e, d.Pending())
		}
	}
	d := newDisk(t, 128, 3)
	d.Fuel(len(pending))
	if _, e := journal.Format(d, zeros(128), 3); e != api.OK {
		t.Fatal(e)
	}
	for _, i := range []int{0, 1, 2, 3, 6, 7, 8} {
		d := newDisk(t, 128, 3)
		d.Bad(i, true)
		if j, e := journal.Format(d, zeros(128), 3); j != nil || e != api.ErrBad {
			t.Fatal(i, e)
		}
	}
	// Masters first, then slots: what is kept of the first two writes is that.
	d = newDisk(t, 128, 3)
	for i := range 9 {
		d.Write(i, strings.Repeat("j", 64))
	}
	d.Sync()
	d.Fuel(5)
	journal.Format(d, zeros(128), 3)
	for n, at := range []int{0, 1, 6, 7, 8} {
		after := d.Crash([]api.Pick{{N: n, Bytes: 64}})
		if sector(t, after, at) != zeros(64) {
			t.Fatal(n, at)
		}
	}
}

func TestAppendAndOpen(t *testing.T) {
	c1, c2 := put(1, "x"), api.Command{Kind: api.CmdBlank}
	for _, x := range []struct {
		picks []api.Pick
		want  []api.Command
	}{{nil, []api.Command{c1}}, {[]api.Pick{{N: 0, Bytes: 64}}, []api.Command{c1, c2}}, {[]api.Pick{{N: 0, Bytes: 32}}, []api.Command{c1}}} {
		image := strings.Repeat("i", 128)
		d, j := format(t, image, 3)
		if j.Append(c1) != api.OK || j.Sync() != api.OK || j.Append(c2) != api.OK || j.Left() != 1 {
			t.Fatal(j.Left())
		}
		after := d.Crash(x.picks)
		k, got, cs, e := journal.Open(after, 128, 3)
		if e != api.OK || got != image || len(cs) != len(x.want) || k.Left() != 0 || after.Pending() != 0 {
			t.Fatal(got, cs, e)
		}
		for i := range cs {
			if cs[i] != x.want[i] {
				t.Fatal(cs)
			}
		}
		if e := k.Append(c1); e != api.ErrFull {
			t.Fatal("no room till Check", e)
		}
		if e := k.Append(api.Command{}); e != api.ErrArg {
			t.Fatal(e)
		}
		if e := k.Sync(); e != api.OK {
			t.Fatal(e)
		}
		if e := k.Check(image); e != api.OK || k.Left() != 3 {
			t.Fatal(e)
		}
	}
}

func TestRecordsLieInTheirSlots(t *testing.T) {
	d, j := format(t, zeros(64), 3)
	c := []api.Command{put(0, "a"), put(1, "b"), put(2, "c")}
	for i, x := range c {
		if e := j.Append(x); e != api.OK || j.Left() != 2-i {
			t.Fatal(e)
		}
		want, _ := seal.Record(api.Record{Seq: uint32(1 + i), Cmd: x})
		if sector(t, d, 4+i) != want {
			t.Fatal(i)
		}
	}
	if e := j.Append(c[0]); e != api.ErrFull {
		t.Fatal(e)
	}
	if e := j.Append(put(0, "")); e != api.ErrArg {
		t.Fatal("a command is looked at ahead of the room", e)
	}
	for _, image := range []string{"", zeros(128), zeros(63)} {
		if e := j.Check(image); e != api.ErrArg {
			t.Fatal(e)
		}
	}
	if e := j.Check(strings.Repeat("z", 64)); e != api.OK || j.Left() != 3 {
		t.Fatal(e)
	}
	m, _ := seal.Wrap(7, "M\x01") // 4 comes next, and 3 slots are skipped
	if sector(t, d, 1) != m || sector(t, d, 3) != strings.Repeat("z", 64) || sector(t, d, 2) != zeros(64) || d.Pending() != 0 {
		t.Fatal()
	}
	j.Append(c[0])
	want, _ := seal.Record(api.Record{Seq: 7, Cmd: c[0]})
	if sector(t, d, 4) != want {
		t.Fatal()
	}
	_, image, cs, _ := journal.Open(d, 64, 3)
	if image != strings.Repeat("z", 64) || len(cs) != 1 || cs[0] != c[0] {
		t.Fatal(image, cs)
	}
	j.Check(zeros(64))
	m, _ = seal.Wrap(11, "M\x00")
	if sector(t, d, 0) != m {
		t.Fatal()
	}
}

func TestErrorsLeaveTheJournalAsItWas(t *testing.T) {
	d, j := format(t, zeros(64), 2)
	d.Bad(4, true)
	if e := j.Append(put(0, "a")); e != api.ErrBad || j.Left() != 2 {
		t.Fatal(e)
	}
	d.Bad(4, false)
	if e := j.Append(put(0, "b")); e != api.OK || j.Left() != 1 {
		t.Fatal(e)
	}
	for _, bad := range []int{3, 1} {
		d.Bad(bad, true)
		if e := j.Check(strings.Repeat("x", 64)); e != api.ErrBad || j.Left() != 1 {
			t.Fatal(e)
		}
		d.Bad(bad, false)
	}
	if e := j.Append(put(0, "c")); e != api.OK {
		t.Fatal(e)
	}
	_, image, cs, e := journal.Open(d, 64, 2)
	if e != api.OK || image != zeros(64) || len(cs) != 2 || cs[0] != put(0, "b") || cs[1] != put(0, "c") {
		t.Fatal(image, cs, e)
	}
}

// Check of 1 sector: a write, a sync, a write, a sync.
func TestCheckStepByStep(t *testing.T) {
	for fuel, want := range []int{0, 1, 0, 1, 0} {
		d, j := format(t, zeros(64), 2)
		d.Fuel(fuel)
		e := j.Check(strings.Repeat("x", 64))
		if (e == api.OK) != (fuel == 4) || d.Pending() != want {
			t.Fatal(fuel, e, d.Pending())
		}
	}
}

func TestNoJournal(t *testing.T) {
	var j *journal.Journal
	if j.Append(put(0, "a")) != api.ErrDown || j.Append(api.Command{}) != api.ErrDown || j.Sync() != api.ErrDown || j.Check("") != api.ErrDown || j.Left() != 0 {
		t.Fatal()
	}
}

// master writes a sector as it is.
func lay(t *testing.T, d *disk.Disk, i int, s string) {
	t.Helper()
	if e := d.Write(i, s); e != api.OK {
		t.Fatal(e)
	}
}

func wrap(seq uint32, body string) string {
	s, _ := seal.Wrap(seq, body)
	return s
}

func TestWhichMasterHolds(t *testing.T) {
	a, b := strings.Repeat("a", 64), strings.Repeat("b", 64)
	none := zeros(64)
	for _, x := range []struct{ m0, m1, want string }{
		{none, none, ""},
		{wrap(5, "M\x00"), none, a},
		{none, wrap(5, "M\x01"), b},
		{wrap(5, "M\x00"), wrap(6, "M\x01"), b},
		{wrap(6, "M\x00"), wrap(5, "M\x01"), a},
		{wrap(5, "M\x00"), wrap(5, "M\x01"), a},
		{wrap(0, "M\x00"), none, ""},
		{wrap(0, "M\x00"), wrap(1, "M\x01"), b},
		{wrap(0xFFFFFFFF, "M\x00"), wrap(1, "M\x01"), a},
		{wrap(5, "M\x01"), none, ""},
		{none, wrap(5, "M\x00"), ""},
		{wrap(5, "N\x00"), none, ""},
		{wrap(5, "M\x00\x00"), none, ""},
		{wrap(5, "M"), none, ""},
		{wrap(9, "M\x02"), wrap(5, "M\x01"), b},
		{"\x01" + wrap(9, "M\x00")[1:], wrap(5, "M\x01"), b},
	} {
		d := newDisk(t, 64, 1)
		lay(t, d, 0, x.m0)
		lay(t, d, 1, x.m1)
		lay(t, d, 2, a)
		lay(t, d, 3, b)
		before := d.Pending()
		j, image, cs, e := journal.Open(d, 64, 1)
		if image != x.want || len(cs) != 0 || (e == api.ErrForm) != (x.want == "") || (j == nil) != (x.want == "") || d.Pending() != before {
			t.Fatalf("%q %q: %q %d", x.m0, x.m1, image, e)
		}
	}
}

func TestRecordsEndAtTheFirstGap(t *testing.T) {
	rec := func(seq uint32, c api.Command) string {
		s, _ := seal.Record(api.Record{Seq: seq, Cmd: c})
		return s
	}
	c := put(3, "q")
	for _, x := range []struct {
		base  uint32
		slots []string
		want  int
	}{
		{10, []string{rec(10, c), rec(11, c), rec(12, c)}, 3},
		{10, []string{rec(10, c), rec(12, c), rec(12, c)}, 1},
		{10, []string{rec(9, c), rec(11, c), rec(12, c)}, 0},
		{10, []string{rec(10, c), wrap(11, "no"), rec(12, c)}, 1},
		{10, []string{rec(10, c), zeros(64), rec(12, c)}, 1},
		{0xFFFFFFFE, []string{rec(0xFFFFFFFE, c), rec(0xFFFFFFFF, c), rec(0, c)}, 3},
		{0xFFFFFFFF, []string{rec(0xFFFFFFFF, c), rec(1, c), rec(0, c)}, 1},
	} {
		d := newDisk(t, 64, 3)
		lay(t, d, 0, wrap(x.base, "M\x00"))
		for i, s := range x.slots {
			lay(t, d, 4+i, s)
		}
		if _, _, cs, e := journal.Open(d, 64, 3); len(cs) != x.want || e != api.OK {
			t.Fatal(x.base, cs, e)
		}
	}
}

func TestNumbersRunOut(t *testing.T) {
	const last = math.MaxUint32 - 2048
	for _, x := range []struct {
		base uint32
		want api.Errno
	}{{last, api.OK}, {last + 1, api.ErrLong}, {math.MaxUint32, api.ErrLong}} {
		d := newDisk(t, 64, 2)
		lay(t, d, 1, wrap(x.base, "M\x01"))
		j, _, _, e := journal.Open(d, 64, 2)
		if e != api.OK {
			t.Fatal(e)
		}
		if e := j.Check("x"); e != api.ErrArg {
			t.Fatal("the size is looked at first", e)
		}
		before := d.Pending()
		if e := j.Check(zeros(64)); e != x.want {
			t.Fatal(x.base, e)
		}
		if x.want != api.OK {
			if d.Pending() != before {
				t.Fatal("it was written")
			}
			continue
		}
		if sector(t, d, 0) != wrap(x.base+2, "M\x00") {
			t.Fatal()
		}
	}
}

// history is what was appended, and how much of it is sure.
type history struct {
	images []string // images[i]: behind i commands
	sure   int
}

func (h *history) add(c api.Command) {
	s, e := seal.Apply(h.images[len(h.images)-1], c)
	if e != api.OK {
		panic(e)
	}
	h.images = append(h.images, s)
}

func (h *history) last() string { return h.images[len(h.images)-1] }

// found tells how many commands an image includes; commands may repeat an image, so any fit counts.
func (h *history) found(image string) int {
	for i := len(h.images) - 1; i >= h.sure; i-- {
		if h.images[i] == image {
			return i
		}
	}
	return -1
}

func randomPicks(r *rand.Rand, d *disk.Disk) []api.Pick {
	var p []api.Pick
	for _, n := range r.Perm(d.Pending()) {
		switch r.Intn(3) {
		case 0:
			p = append(p, api.Pick{N: n, Bytes: 64})
		case 1:
			p = append(p, api.Pick{N: n, Bytes: r.Intn(65)})
		}
	}
	return p
}

func replay(t *testing.T, image string, cs []api.Command) string {
	t.Helper()
	for _, c := range cs {
		s, e := seal.Apply(image, c)
		if e != api.OK {
			t.Fatal(c, e)
		}
		image = s
	}
	return image
}

// Whatever fails and survives: a prefix is found, with all that was synced; also behind crashes in a row.
func TestPrefixSurvives(t *testing.T) {
	for seed := range 2500 {
		r := rand.New(rand.NewSource(int64(seed)))
		size, slots := 64*(1+r.Intn(3)), 1+r.Intn(4)
		d := newDisk(t, size, slots)
		j, e := journal.Format(d, zeros(size), slots)
		if e != api.OK {
			t.Fatal(e)
		}
		h := &history{images: []string{zeros(size)}}
		n := byte(0)
		for range 4 {
			d.Fuel(r.Intn(40))
			for range 30 {
				switch r.Intn(5) {
				case 0:
					if j.Sync() == api.OK {
						h.sure = len(h.images) - 1
					}
				default:
					n++
					c := put(r.Intn(size), string([]byte{n}))
					if j.Left() == 0 {
						h.add(c)
						if j.Check(h.last()) == api.OK {
							h.sure = len(h.images) - 1
						}
					} else {
						j.Append(c)
						h.add(c)
					}
				}
				if _, e := d.Read(0); e != api.OK {
					break
				}
			}
			for {
				d = d.Crash(randomPicks(r, d))
				k, image, cs, e := journal.Open(d, size, slots)
				if e != api.OK {
					t.Fatal(seed, e)
				}
				got := replay(t, image, cs)
				at := h.found(got)
				if at < 0 {
					t.Fatal(seed, "no prefix")
				}
				_, again, cs2, _ := journal.Open(d, size, slots)
				if replay(t, again, cs2) != got {
					t.Fatal(seed, "twice")
				}
				h.images = h.images[:at+1]
				h.sure = at
				d.Fuel(r.Intn(8))
				if k.Check(got) == api.OK {
					j = k
					break
				}
			}
		}
	}
}

func TestAllThatWasWrittenCountsWhenAllSurvives(t *testing.T) {
	d, j := format(t, zeros(64), 4)
	for i := range 3 {
		j.Append(put(i, "x"))
	}
	_, image, cs, _ := journal.Open(d.Crash(kept(d)), 64, 4)
	if replay(t, image, cs) != "xxx"+zeros(61) {
		t.Fatal(cs)
	}
}
