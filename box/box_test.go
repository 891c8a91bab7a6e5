package box_test

import (
	"math/rand"
	"slices"
	"testing"

	"bilge/api"
	"bilge/box"
)

func at(state, tries int) api.Box { return api.Box{State: state, Tries: tries} }

// next is the state behind what is asked and goes well, 0 where it may not be asked.
func next(state, what int) int {
	switch [2]int{state, what} {
	case [2]int{api.Created, api.DoPull}:
		return api.Pulled
	case [2]int{api.Pulled, api.DoStart}:
		return api.Up
	case [2]int{api.Up, api.DoStop}:
		return api.Down
	}
	if what == api.DoRemove && slices.Contains([]int{api.Created, api.Pulled, api.Down, api.Broken}, state) {
		return api.Gone
	}
	return 0
}

// P14.1: all states, all that is asked, all tries and retries at the edge.
func TestMayAndDo(t *testing.T) {
	for state := -2; state < 10; state++ {
		for what := -2; what < 8; what++ {
			want := next(state, what)
			for _, tries := range []int{0, 1, 2, 3, api.Most - 1, api.Most} {
				b := at(state, tries)
				if box.May(b, what) != (want != 0) {
					t.Error(b, what)
				}
				for _, retries := range []int{0, 1, 2, 20, api.Most - 1, api.Most} {
					good, err := box.Do(b, what, true, retries)
					bad, again := box.Do(b, what, false, retries)
					if want == 0 {
						if good != b || bad != b || err != api.ErrState || again != api.ErrState {
							t.Error(b, what, good, err, bad, again)
						}
						continue
					}
					if good != at(want, 0) || err != api.OK {
						t.Error(b, what, good, err)
					}
					more := tries + 1
					if tries == api.Most {
						more = api.Most
					}
					left := state
					if more > retries {
						left = api.Broken
					}
					if bad != at(left, more) || again != api.OK {
						t.Error(b, what, retries, bad, again)
					}
				}
			}
		}
	}
}

// P14.1.
func TestNewAndOver(t *testing.T) {
	if box.New() != at(api.Created, 0) {
		t.Error(box.New())
	}
	for state := -1; state < 9; state++ {
		for _, tries := range []int{0, 5} {
			if box.Over(at(state, tries)) != (state == api.Gone || state == api.Broken) {
				t.Error(state)
			}
		}
	}
}

// P14.2.
func TestRun(t *testing.T) {
	const pull, start, stop, remove = api.DoPull, api.DoStart, api.DoStop, api.DoRemove
	for i, x := range []struct {
		l       []int
		well    []bool
		retries int
		want    api.Box
		might   int
	}{
		{nil, nil, 0, at(api.Created, 0), 0}, {nil, []bool{false}, 0, at(api.Created, 0), 0},
		{[]int{pull, start, start}, nil, 0, at(api.Up, 0), 2}, {[]int{pull, start, stop, remove}, nil, 0, at(api.Gone, 0), 4},
		{[]int{pull}, []bool{false}, 0, at(api.Broken, 1), 1}, {[]int{pull}, []bool{false}, 1, at(api.Created, 1), 1},
		{[]int{pull, pull}, []bool{false, false}, 1, at(api.Broken, 2), 2}, {[]int{pull, pull}, []bool{false}, 1, at(api.Pulled, 0), 2},
		{[]int{pull, start, start, start}, []bool{true, false, false, true}, 1, at(api.Broken, 2), 3},
		{[]int{pull, start, start, start}, []bool{true, false, false, true}, 2, at(api.Up, 0), 4},
		{[]int{start, pull}, []bool{false, true}, 0, at(api.Pulled, 0), 1}, {[]int{start, pull}, []bool{true, false}, 0, at(api.Broken, 1), 1},
		{[]int{pull, remove, remove}, []bool{false, false, true}, 0, at(api.Gone, 0), 3}, {[]int{remove, pull, start}, nil, 5, at(api.Gone, 0), 1},
		{[]int{9, 0, -1}, nil, 0, at(api.Created, 0), 0}, {[]int{remove, remove, remove}, []bool{false, false, false}, 1, at(api.Broken, 3), 3},
	} {
		if got, might := box.Run(x.l, x.well, x.retries); got != x.want || might != x.might {
			t.Error(i, got, might)
		}
	}
}

// P14.3: one failure more than retries breaks, what goes well clears the tries, Gone stays.
func TestLaws(t *testing.T) {
	random := rand.New(rand.NewSource(14))
	for range 5000 {
		retries := random.Intn(4)
		b, row := box.New(), 0
		for range 20 {
			what, well := 1+random.Intn(4), random.Intn(3) == 0
			after, err := box.Do(b, what, well, retries)
			switch {
			case b.State == api.Gone || err != api.OK:
				if after != b || box.May(b, what) {
					t.Fatal(b, what, after)
				}
			case well:
				row = 0
				if after.Tries != 0 || after.State == b.State {
					t.Fatal(b, what, after)
				}
			default:
				row++
				if (after.State == api.Broken) != (row > retries || b.State == api.Broken) || after.Tries != row {
					t.Fatal(b, what, after, row)
				}
			}
			b = after
		}
	}
}

// P14.2: what is handed in stays.
func TestHandedInStays(t *testing.T) {
	l, well := []int{1, 2, 3}, []bool{true, false}
	box.Run(l, well, 1)
	if !slices.Equal(l, []int{1, 2, 3}) || !slices.Equal(well, []bool{true, false}) {
		t.Error(l, well)
	}
}
