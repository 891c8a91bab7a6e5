package cond_test

import (
	"math"
	"math/rand"
	"slices"
	"testing"

	"bilge/api"
	"bilge/cond"
)

func on(calm int) api.Cond { return api.Cond{On: true, Calm: calm} }

var off = api.Cond{}

// P19.1.
func TestRight(t *testing.T) {
	for _, x := range []struct {
		c      api.Cond
		period int
		want   bool
	}{
		{off, 1, true}, {off, 1000, true}, {off, 0, true}, {off, -5, true}, {api.Cond{Calm: 1}, 5, false}, {api.Cond{Calm: -1}, 5, false},
		{on(0), 1, true}, {on(1), 1, false}, {on(-1), 1, false}, {on(4), 5, true}, {on(5), 5, false}, {on(6), 5, false}, {on(999), 1000, true}, {on(1000), 1000, false},
		{on(0), 0, false}, {on(0), -1, false}, {on(0), math.MinInt, false}, {on(math.MinInt), 5, false}, {on(math.MaxInt), math.MaxInt, false}, {on(math.MaxInt - 1), math.MaxInt, true},
		{on(math.MaxInt), math.MinInt, false},
	} {
		if cond.Right(x.c, x.period) != x.want {
			t.Error(x)
		}
	}
}

// P19.1.
func TestStep(t *testing.T) {
	for i, x := range []struct {
		c                 api.Cond
		holds, met, fresh bool
		period            int
		want              api.Cond
	}{
		{off, true, true, true, 3, on(0)}, {off, true, false, true, 3, on(0)}, {off, false, true, true, 3, off}, {off, false, false, true, 3, off},
		{off, true, true, false, 3, off}, {off, false, false, false, 3, off}, {off, false, true, false, 3, off},
		{on(2), true, true, true, 3, on(0)}, {on(2), true, false, true, 3, on(0)}, {on(2), false, true, true, 3, on(0)}, {on(2), false, false, true, 3, off},
		{on(1), false, false, true, 3, on(2)}, {on(0), false, false, true, 3, on(1)}, {on(0), false, false, true, 1, off},
		{on(2), true, true, false, 3, on(0)}, {on(2), false, false, false, 3, on(0)}, {on(2), false, true, false, 3, on(0)}, {on(0), false, false, false, 1, on(0)},
		{on(998), false, false, true, 1000, on(999)}, {on(999), false, false, true, 1000, off}, {on(0), true, true, true, 1, on(0)}, {on(0), false, true, true, 1, on(0)},
	} {
		got := cond.Step(x.c, x.holds, x.met, x.fresh, x.period)
		if got != x.want || !cond.Right(got, x.period) {
			t.Error(i, got)
		}
	}
}

// P19.1: the chapter's examples.
func TestExamples(t *testing.T) {
	calm := func(c api.Cond) api.Cond { return cond.Step(c, false, false, true, 2) }
	none := func(c api.Cond) api.Cond { return cond.Step(c, false, false, false, 2) }
	c := cond.Step(off, true, true, true, 2)
	if !c.On || calm(calm(c)).On || !calm(none(calm(c))).On || calm(calm(none(calm(c)))).On {
		t.Error(c)
	}
}

// P19.2.
func TestAll(t *testing.T) {
	ev := func(kind, signal int) api.Event { return api.Event{Kind: kind, Signal: signal} }
	for i, x := range []struct {
		l, want    [3]api.Cond
		holds, met [3]bool
		fresh      bool
		events     []api.Event
	}{
		{[3]api.Cond{}, [3]api.Cond{on(0), on(0), on(0)}, [3]bool{true, true, true}, [3]bool{true, true, true}, true, []api.Event{ev(api.EvOn, 0), ev(api.EvOn, 1), ev(api.EvOn, 2)}},
		{[3]api.Cond{}, [3]api.Cond{}, [3]bool{true, true, true}, [3]bool{true, true, true}, false, nil},
		{[3]api.Cond{on(1), on(0), off}, [3]api.Cond{off, on(1), on(0)}, [3]bool{false, false, true}, [3]bool{false, false, true}, true, []api.Event{ev(api.EvOff, 0), ev(api.EvOn, 2)}},
		{[3]api.Cond{on(1), on(1), on(1)}, [3]api.Cond{off, off, off}, [3]bool{}, [3]bool{}, true, []api.Event{ev(api.EvOff, 0), ev(api.EvOff, 1), ev(api.EvOff, 2)}},
		{[3]api.Cond{on(1), on(1), on(1)}, [3]api.Cond{on(0), on(0), on(0)}, [3]bool{}, [3]bool{}, false, nil},
		{[3]api.Cond{on(1), on(1), off}, [3]api.Cond{on(0), on(0), off}, [3]bool{true, false, false}, [3]bool{false, true, true}, true, nil},
		{[3]api.Cond{}, [3]api.Cond{off, on(0), off}, [3]bool{false, true, false}, [3]bool{true, false, true}, true, []api.Event{ev(api.EvOn, 1)}},
	} {
		got, events := cond.All(x.l, x.holds, x.met, x.fresh, 2)
		if got != x.want || !slices.Equal(events, x.events) {
			t.Error(i, got, events)
		}
	}
}

// P19.3: against the whole row of rounds.
func TestRows(t *testing.T) {
	random := rand.New(rand.NewSource(19))
	for range 500 {
		period := 1 + random.Intn(4)
		var l [3]api.Cond
		var calm [3]int // calm rounds, one behind the other, behind the last round that held
		for range 60 {
			var holds, met [3]bool
			for i := range 3 {
				met[i] = random.Intn(4) == 0
				holds[i] = met[i] && random.Intn(2) == 0
			}
			fresh := random.Intn(6) > 0
			next, events := cond.All(l, holds, met, fresh, period)
			turned := 0
			for i := range 3 {
				if fresh && !met[i] && !holds[i] {
					calm[i]++
				} else {
					calm[i] = 0
				}
				want := l[i].On
				if fresh && holds[i] {
					want = true
				} else if calm[i] >= period {
					want = false
				}
				if next[i].On != want || !cond.Right(next[i], period) || want && next[i].Calm != calm[i] {
					t.Fatal(l, next, holds, met, fresh, period)
				}
				if next[i] != cond.Step(l[i], holds[i], met[i], fresh, period) {
					t.Fatal("All isn't Step")
				}
				if want != l[i].On {
					turned++
				} else if want {
					continue
				}
				calm[i] = 0
			}
			if len(events) != turned {
				t.Fatal(events, turned)
			}
			l = next
		}
	}
}

// P19.4.
func TestNewMemory(t *testing.T) {
	all := [3]bool{true, true, true}
	_, first := cond.All([3]api.Cond{}, all, all, true, 2)
	_, second := cond.All([3]api.Cond{}, all, all, true, 2)
	first[0].Signal = 9
	if second[0].Signal != 0 {
		t.Error(second)
	}
}
