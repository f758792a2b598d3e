package disk_test

import (
	"math"
	"math/rand"
	"strings"
	"testing"

	"cameo/api"
	"cameo/disk"
)

func full(c byte) string { return strings.Repeat(string([]byte{c}), api.Sector) }

func expect(t *testing.T, d *disk.Disk, i int, want string) {
	t.Helper()
	if s, e := d.Read(i); s != want || e != api.OK {
		t.Fatalf("sector %d: %q, %d; want %q", i, s, e, want)
	}
}

func TestNewKnowsItsLimits(t *testing.T) {
	for _, n := range []int{math.MinInt, -1, 0, api.MaxSectors + 1, math.MaxInt} {
		if d, e := disk.New(n); d != nil || e != api.ErrArg {
			t.Fatal(n, d, e)
		}
	}
	for _, n := range []int{1, 2, api.MaxSectors} {
		d, e := disk.New(n)
		if e != api.OK {
			t.Fatal(n, e)
		}
		expect(t, d, 0, full(0))
		expect(t, d, n-1, full(0))
		for _, i := range []int{-1, n, math.MaxInt, math.MinInt} {
			if s, e := d.Read(i); s != "" || e != api.ErrArg {
				t.Fatal(i, s, e)
			}
			if e := d.Write(i, full(1)); e != api.ErrArg {
				t.Fatal(i, e)
			}
		}
	}
}

func TestErrorsComeInTheirOrderAndChangeNothing(t *testing.T) {
	d, _ := disk.New(2)
	d.Fuel(1)
	d.Bad(0, true)
	for _, s := range []string{"", full(1)[1:], full(1) + "x"} {
		if e := d.Write(0, s); e != api.ErrArg {
			t.Fatal(len(s), e)
		}
	}
	if e := d.Write(0, full(1)); e != api.ErrBad {
		t.Fatal(e)
	}
	if d.Pending() != 0 {
		t.Fatal(d.Pending())
	}
	expect(t, d, 0, full(0))
	// None of these took the one unit of fuel.
	if e := d.Write(1, full(1)); e != api.OK {
		t.Fatal(e)
	}
	if e := d.Write(0, full(1)); e != api.ErrBad {
		t.Fatal("a bad sector is told ahead of missing fuel", e)
	}
	expect(t, d, 1, full(1))
	if e := d.Write(1, full(2)); e != api.ErrDown {
		t.Fatal(e)
	}
	if _, e := d.Read(9); e != api.ErrDown {
		t.Fatal(e)
	}
	if e := d.Write(9, ""); e != api.ErrDown {
		t.Fatal(e)
	}
	d.Fuel(-1)
	if e := d.Sync(); e != api.ErrDown {
		t.Fatal("fuel doesn't bring a disk back", e)
	}
}

func TestFuelCountsWritesAndSyncs(t *testing.T) {
	d, _ := disk.New(1)
	d.Fuel(3)
	for i, e := range []api.Errno{d.Write(0, full(1)), d.Sync(), d.Sync(), d.Sync()} {
		if want := []api.Errno{api.OK, api.OK, api.OK, api.ErrDown}[i]; e != want {
			t.Fatal(i, e)
		}
	}
	d, _ = disk.New(1)
	d.Fuel(0)
	expect(t, d, 0, full(0))
	d.Fuel(math.MinInt)
	if e := d.Write(0, full(1)); e != api.OK {
		t.Fatal(e)
	}
	d.Fuel(0)
	if e := d.Sync(); e != api.ErrDown {
		t.Fatal(e)
	}
	n := d.Crash([]api.Pick{{N: 0, Bytes: 64}})
	expect(t, n, 0, full(1))
	for range 5 {
		if n.Sync() != api.OK {
			t.Fatal("a disk behind a crash has all the fuel")
		}
	}
}

func TestBadSectors(t *testing.T) {
	d, _ := disk.New(2)
	for _, i := range []int{-1, 2, math.MaxInt} {
		d.Bad(i, true)
	}
	d.Bad(1, true)
	if d.Write(0, full(1)) != api.OK || d.Write(1, full(1)) != api.ErrBad {
		t.Fatal()
	}
	expect(t, d, 1, full(0))
	n := d.Crash(nil)
	if n.Write(1, full(1)) != api.OK {
		t.Fatal("a new disk takes all writes")
	}
	d, _ = disk.New(2)
	d.Bad(1, true)
	d.Bad(1, false)
	if d.Write(1, full(1)) != api.OK {
		t.Fatal()
	}
}

func TestCrashPicks(t *testing.T) {
	d, _ := disk.New(3)
	d.Write(0, full('a'))
	d.Sync()
	if d.Pending() != 0 {
		t.Fatal(d.Pending())
	}
	d.Write(0, full('b'))
	d.Write(0, full('c'))
	d.Write(2, full('d'))
	if d.Pending() != 3 {
		t.Fatal(d.Pending())
	}
	expect(t, d, 0, full('c'))
	a, b, c := full('a'), full('b'), full('c')
	for _, x := range []struct {
		picks []api.Pick
		want  string
	}{
		{nil, a},
		{[]api.Pick{{N: 0, Bytes: 64}}, b},
		{[]api.Pick{{N: 0, Bytes: math.MaxInt}}, b},
		{[]api.Pick{{N: 0, Bytes: 65}}, b},
		{[]api.Pick{{N: 0, Bytes: 0}}, a},
		{[]api.Pick{{N: 0, Bytes: -1}}, a},
		{[]api.Pick{{N: 0, Bytes: math.MinInt}}, a},
		{[]api.Pick{{N: 0, Bytes: 63}}, b[:63] + a[63:]},
		{[]api.Pick{{N: 1, Bytes: 10}, {N: 0, Bytes: 20}}, b[:20] + a[20:]},
		{[]api.Pick{{N: 0, Bytes: 20}, {N: 1, Bytes: 10}}, c[:10] + b[10:20] + a[20:]},
		{[]api.Pick{{N: 0, Bytes: 9}, {N: 1, Bytes: 9}, {N: 0, Bytes: 3}}, b[:3] + c[3:9] + a[9:]},
		{[]api.Pick{{N: 3, Bytes: 9}, {N: -1, Bytes: 9}, {N: math.MaxInt, Bytes: 9}}, a},
	} {
		n := d.Crash(x.picks)
		expect(t, n, 0, x.want)
		expect(t, n, 1, full(0))
		expect(t, n, 2, full(0))
		if n.Pending() != 0 {
			t.Fatal(n.Pending())
		}
		expect(t, n.Crash(nil), 0, x.want)
	}
	if _, e := d.Read(0); e != api.ErrDown {
		t.Fatal(e)
	}
	if d.Write(0, a) != api.ErrDown || d.Sync() != api.ErrDown {
		t.Fatal()
	}
}

func TestNoDisk(t *testing.T) {
	var d *disk.Disk
	if s, e := d.Read(0); s != "" || e != api.ErrDown {
		t.Fatal(s, e)
	}
	if d.Write(0, full(0)) != api.ErrDown || d.Sync() != api.ErrDown || d.Pending() != 0 || d.Crash(nil) != nil {
		t.Fatal()
	}
	d.Bad(0, true)
	d.Fuel(1)
}

// Against a model that keeps every byte by itself.
func TestRandomHistories(t *testing.T) {
	r := rand.New(rand.NewSource(1))
	for range 300 {
		const n = 4
		d, _ := disk.New(n)
		var durable, visible [n]string
		for i := range n {
			durable[i], visible[i] = full(0), full(0)
		}
		type write struct {
			at   int
			data string
		}
		var writes []write
		for range 60 {
			i := r.Intn(n)
			switch r.Intn(6) {
			case 0:
				d.Sync()
				durable, writes = visible, nil
			case 1:
				var picks []api.Pick
				for range r.Intn(5) {
					p := api.Pick{N: r.Intn(6) - 1, Bytes: r.Intn(70) - 3}
					picks = append(picks, p)
					if p.N < 0 || p.N >= len(writes) {
						continue
					}
					w := writes[p.N]
					b := []byte(durable[w.at])
					for k := 0; k < p.Bytes && k < api.Sector; k++ {
						b[k] = w.data[k]
					}
					durable[w.at] = string(b)
				}
				old := append([]api.Pick(nil), picks...)
				next := d.Crash(picks)
				for k := range picks {
					if picks[k] != old[k] {
						t.Fatal("picks were changed")
					}
				}
				if d.Sync() != api.ErrDown {
					t.Fatal("the old disk is up")
				}
				d, visible, writes = next, durable, nil
			default:
				b := make([]byte, api.Sector)
				r.Read(b)
				d.Write(i, string(b))
				visible[i] = string(b)
				writes = append(writes, write{i, string(b)})
			}
			if d.Pending() != len(writes) {
				t.Fatal(d.Pending(), len(writes))
			}
			for k := range n {
				expect(t, d, k, visible[k])
			}
		}
	}
}
