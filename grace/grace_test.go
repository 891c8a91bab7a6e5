package grace_test

import (
	"math/rand"
	"slices"
	"testing"

	"bilge/api"
	"bilge/conf"
	"bilge/grace"
	"bilge/thresh"
)

func hard(signal, percent, amount int) api.Threshold {
	return api.Threshold{Signal: signal, Percent: percent, Amount: amount}
}

func soft(signal, percent, amount, rounds int) api.Threshold {
	return api.Threshold{Signal: signal, Percent: percent, Amount: amount, Soft: true, Grace: rounds}
}

func config(l ...api.Threshold) api.Config {
	return api.Config{Capacity: [3]int{100, 1000, 201}, Thresholds: l, Period: 1, MaxAge: 1}
}

func five() api.Config {
	return config(hard(api.Memory, 10, 0), soft(api.Disk, 0, 20, 2), soft(api.Memory, 50, 0, 3), hard(api.Pid, 10, 0), hard(api.Disk, 1, 0))
}

// P18.1.
func TestBeginAndMet(t *testing.T) {
	if !slices.Equal(grace.Begin(five()), []int{-1, -1, -1, -1, -1}) || len(grace.Begin(config())) != 0 {
		t.Error(grace.Begin(five()))
	}
	for _, x := range []struct {
		avail [3]int
		want  []bool
	}{
		{[3]int{100, 1000, 201}, []bool{false, false, false, false, false}}, {[3]int{9, 20, 21}, []bool{true, false, true, false, false}},
		{[3]int{10, 19, 20}, []bool{false, true, true, true, false}}, {[3]int{50, 10, 0}, []bool{false, true, false, true, false}},
		{[3]int{49, 9, api.Most}, []bool{false, true, true, false, true}}, {[3]int{0, 0, 0}, []bool{true, true, true, true, true}},
	} {
		if got := grace.Met(five(), x.avail); !slices.Equal(got, x.want) {
			t.Error(x.avail, got)
		}
	}
	if len(grace.Met(config(), [3]int{})) != 0 {
		t.Error("of none")
	}
}

// P18.1.
func TestStep(t *testing.T) {
	c := five()
	for i, x := range []struct {
		since []int
		avail [3]int
		round int
		want  []int
	}{
		{[]int{-1, -1, -1, -1, -1}, [3]int{9, 19, 20}, 7, []int{7, 7, 7, 7, -1}}, {[]int{3, 4, 5, 6, 7}, [3]int{9, 19, 20}, 9, []int{3, 4, 5, 6, -1}},
		{[]int{3, 4, 5, 6, 7}, [3]int{100, 1000, 200}, 9, []int{-1, -1, -1, -1, -1}}, {[]int{-1, 0, -1, 0, 2}, [3]int{0, 0, 0}, 0, []int{0, 0, 0, 0, 2}},
		{[]int{1, 1, 1, 1, 1}, [3]int{10, 20, 21}, api.MaxRound, []int{-1, -1, 1, -1, -1}},
		{[]int{-1, 5, -1, -1, -1}, [3]int{100, 9, 201}, api.MaxRound, []int{-1, 5, -1, -1, api.MaxRound}},
	} {
		if got := grace.Step(c, x.since, x.avail, x.round); !slices.Equal(got, x.want) {
			t.Error(i, got)
		}
	}
	if len(grace.Step(config(), nil, [3]int{}, 5)) != 0 {
		t.Error("of none")
	}
}

// P18.2.
func TestHold(t *testing.T) {
	c := five()
	for i, x := range []struct {
		since []int
		round int
		want  []bool
	}{
		{[]int{-1, -1, -1, -1, -1}, 1000, []bool{false, false, false, false, false}}, {[]int{7, 7, 7, 7, 7}, 7, []bool{true, false, false, true, true}},
		{[]int{7, 7, 7, -1, 7}, 8, []bool{true, false, false, false, true}}, {[]int{-1, 7, 7, 0, 0}, 9, []bool{false, true, false, true, true}},
		{[]int{7, 7, 7, 7, 7}, 10, []bool{true, true, true, true, true}}, {[]int{0, 0, 0, 0, 0}, 2, []bool{true, true, false, true, true}},
		{[]int{0, 0, 0, 0, 0}, api.MaxRound, []bool{true, true, true, true, true}},
	} {
		if got := grace.Hold(c, x.since, x.round); !slices.Equal(got, x.want) {
			t.Error(i, got)
		}
	}
	long := config(soft(api.Memory, 1, 0, 1000))
	if grace.Hold(long, []int{1}, 1000)[0] || !grace.Hold(long, []int{1}, 1001)[0] {
		t.Error("the longest grace")
	}
}

// P18.2.
func TestSignalsAndEdge(t *testing.T) {
	c := five()
	for i, x := range []struct {
		l       []bool
		signals [3]bool
		edges   [3]int
	}{
		{[]bool{false, false, false, false, false}, [3]bool{}, [3]int{}}, {[]bool{true, true, true, true, true}, [3]bool{true, true, true}, [3]int{50, 20, 21}},
		{[]bool{true, false, false, false, false}, [3]bool{true, false, false}, [3]int{10, 0, 0}},
		{[]bool{false, false, false, false, true}, [3]bool{false, true, false}, [3]int{0, 10, 0}},
		{[]bool{false, true, true, false, false}, [3]bool{true, true, false}, [3]int{50, 20, 0}},
		{[]bool{false, false, false, true, true}, [3]bool{false, true, true}, [3]int{0, 10, 21}},
	} {
		if got := grace.Signals(c, x.l); got != x.signals {
			t.Error(i, got)
		}
		for signal, want := range x.edges {
			if got := grace.Edge(c, x.l, signal); got != want {
				t.Error(i, signal, got)
			}
		}
	}
	if grace.Signals(config(), nil) != [3]bool{} || grace.Edge(config(), nil, api.Disk) != 0 {
		t.Error("of none")
	}
}

// P18.3: against the whole row of samples.
func TestRows(t *testing.T) {
	random := rand.New(rand.NewSource(18))
	for range 500 {
		c := config()
		for range random.Intn(5) {
			l := hard(random.Intn(3), 1+random.Intn(100), 0)
			if random.Intn(2) == 0 {
				l.Soft, l.Grace = true, 1+random.Intn(4)
			}
			c.Thresholds = append(c.Thresholds, l)
		}
		if !conf.Right(c) {
			t.Fatal(c)
		}
		since, round := grace.Begin(c), 0
		rows := make([][]int, len(c.Thresholds)) // the rounds of the row of samples that met each
		for range 30 {
			round += 1 + random.Intn(2)
			avail := [3]int{random.Intn(60), random.Intn(600), random.Intn(120)}
			since = grace.Step(c, since, avail, round)
			holds := grace.Hold(c, since, round)
			for i, l := range c.Thresholds {
				if thresh.Met(l, c.Capacity[l.Signal], avail[l.Signal]) {
					rows[i] = append(rows[i], round)
				} else {
					rows[i] = nil
				}
				want := len(rows[i]) > 0 && (!l.Soft || round-rows[i][0] >= l.Grace)
				if holds[i] != want || grace.Met(c, avail)[i] != (len(rows[i]) > 0) {
					t.Fatal(c, i, round, since, holds)
				}
			}
		}
	}
}

// P18.3: the chapter's example.
func TestGraceOfTwo(t *testing.T) {
	c := config(soft(api.Memory, 10, 0, 2))
	since := grace.Begin(c)
	for _, x := range []struct {
		round, avail int
		want         bool
	}{{5, 3, false}, {6, 3, false}, {7, 3, true}, {8, 3, true}, {9, 10, false}, {10, 3, false}, {11, 3, false}, {12, 3, true}} {
		since = grace.Step(c, since, [3]int{x.avail, 0, 0}, x.round)
		if got := grace.Hold(c, since, x.round); got[0] != x.want {
			t.Error(x, since, got)
		}
	}
}

// P18.4.
func TestHandedInStays(t *testing.T) {
	c := five()
	since := []int{3, -1, 3, 3, 3}
	next := grace.Step(c, since, [3]int{0, 0, 0}, 5)
	next[0] = 99
	l := grace.Hold(c, since, 9)
	again := slices.Clone(l)
	grace.Signals(c, l)
	grace.Edge(c, l, api.Memory)
	grace.Met(c, [3]int{})[0] = false
	grace.Begin(c)[0] = 7
	if !slices.Equal(since, []int{3, -1, 3, 3, 3}) || !slices.Equal(l, again) || !conf.Same(c, five()) || grace.Begin(c)[0] != -1 {
		t.Error(since, l, c)
	}
}
