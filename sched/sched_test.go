package sched_test

import (
	"math"
	"math/rand"
	"testing"

	"cameo/api"
	"cameo/sched"
)

func TestTheExample(t *testing.T) {
	s := sched.New()
	for _, x := range []api.Event{{At: 9, Kind: 1}, {At: 5, Kind: 2}, {At: 5, Kind: 0}} {
		if e := s.Add(x); e != api.OK {
			t.Fatal(e)
		}
	}
	if x, ok := s.Due(); ok || x != (api.Event{}) {
		t.Fatal(x)
	}
	if at, ok := s.Next(); at != 5 || !ok || s.Len() != 3 {
		t.Fatal(at)
	}
	s.Pass(9)
	for _, want := range []api.Event{{At: 5, Kind: 0}, {At: 5, Kind: 2}, {At: 9, Kind: 1}} {
		if x, ok := s.Due(); !ok || x != want {
			t.Fatal(x, want)
		}
	}
	if x, ok := s.Due(); ok || x != (api.Event{}) {
		t.Fatal(x)
	}
	if at, ok := s.Next(); ok || at != 0 || s.Len() != 0 {
		t.Fatal(at)
	}
}

func TestPassKnowsItsLimits(t *testing.T) {
	s := sched.New()
	for _, n := range []int{-1, math.MinInt, api.MaxCycles + 1, math.MaxInt} {
		if s.Pass(n) != api.ErrArg || s.Now() != 0 {
			t.Fatal(n)
		}
	}
	if s.Pass(0) != api.OK || s.Pass(5) != api.OK || s.Now() != 5 {
		t.Fatal(s.Now())
	}
	for _, n := range []int{api.MaxCycles - 4, math.MaxInt, -5} {
		if s.Pass(n) != api.ErrArg || s.Now() != 5 {
			t.Fatal(n)
		}
	}
	if s.Pass(api.MaxCycles-5) != api.OK || s.Now() != api.MaxCycles || s.Pass(1) != api.ErrArg || s.Pass(0) != api.OK {
		t.Fatal(s.Now())
	}
}

func TestAddKnowsItsLimits(t *testing.T) {
	s := sched.New()
	for _, x := range []api.Event{{At: -1}, {At: math.MinInt}, {At: 2*api.MaxCycles + 1}, {At: math.MaxInt}, {Kind: -1}, {Kind: math.MinInt}} {
		if s.Add(x) != api.ErrArg || s.Len() != 0 {
			t.Fatal(x)
		}
	}
	s.Pass(7)
	for i := range api.MaxEvents {
		if e := s.Add(api.Event{At: i % 3, Kind: math.MaxInt - i}); e != api.OK || s.Len() != i+1 {
			t.Fatal(e)
		}
	}
	if s.Add(api.Event{At: 1}) != api.ErrMany || s.Add(api.Event{At: -1}) != api.ErrArg || s.Len() != api.MaxEvents {
		t.Fatal()
	}
	if _, ok := s.Due(); !ok {
		t.Fatal()
	}
	if s.Add(api.Event{At: 2 * api.MaxCycles}) != api.OK || s.Add(api.Event{}) != api.ErrMany {
		t.Fatal()
	}
}

func TestCancel(t *testing.T) {
	s := sched.New()
	for i := range 9 {
		s.Add(api.Event{At: 9 - i, Kind: i % 3})
	}
	if s.Cancel(7) != 0 || s.Cancel(-1) != 0 || s.Cancel(1) != 3 || s.Cancel(1) != 0 || s.Len() != 6 {
		t.Fatal(s.Len())
	}
	s.Pass(9)
	last := 0
	for range 6 {
		x, ok := s.Due()
		if !ok || x.Kind == 1 || x.At < last {
			t.Fatal(x)
		}
		last = x.At
	}
}

func TestNoSched(t *testing.T) {
	var s *sched.Sched
	if s.Now() != 0 || s.Pass(0) != api.ErrArg || s.Add(api.Event{}) != api.ErrArg || s.Cancel(0) != 0 || s.Len() != 0 {
		t.Fatal()
	}
	if x, ok := s.Due(); ok || x != (api.Event{}) {
		t.Fatal()
	}
	if at, ok := s.Next(); ok || at != 0 {
		t.Fatal()
	}
}

// Against a list that is searched each time.
func TestRandomHistories(t *testing.T) {
	for seed := range 300 {
		r := rand.New(rand.NewSource(int64(seed)))
		s := sched.New()
		var list []api.Event // in the order in which they were added
		now := 0
		first := func() int {
			best := -1
			for i, x := range list {
				if best < 0 || x.At < list[best].At || x.At == list[best].At && x.Kind < list[best].Kind {
					best = i
				}
			}
			return best
		}
		for range 200 {
			switch r.Intn(7) {
			case 0:
				n := r.Intn(6)
				s.Pass(n)
				now += n
			case 1:
				kind := r.Intn(6)
				var kept []api.Event
				for _, x := range list {
					if x.Kind != kind {
						kept = append(kept, x)
					}
				}
				if n := s.Cancel(kind); n != len(list)-len(kept) {
					t.Fatal(seed, n)
				}
				list = kept
			case 2, 3:
				x, ok := s.Due()
				i := first()
				if want := i >= 0 && list[i].At <= now; ok != want {
					t.Fatal(seed, x, ok)
				}
				if ok {
					if x != list[i] {
						t.Fatal(seed, x, list[i])
					}
					list = append(list[:i:i], list[i+1:]...)
				}
			default:
				x := api.Event{At: max(0, now+r.Intn(9)-2), Kind: r.Intn(6)}
				e := s.Add(x)
				if (e == api.ErrMany) != (len(list) == api.MaxEvents) {
					t.Fatal(seed, e)
				}
				if e == api.OK {
					list = append(list, x)
				}
			}
			at, ok := s.Next()
			if i := first(); ok != (i >= 0) || ok && at != list[i].At {
				t.Fatal(seed, at)
			}
			if s.Len() != len(list) || s.Len() > api.MaxEvents || s.Now() != now {
				t.Fatal(seed)
			}
		}
	}
}
