package world_test

import (
	"fmt"
	"maps"
	"math/rand"
	"slices"
	"testing"

	"bilge/api"
	"bilge/box"
	"bilge/world"
)

// tell is all that a runtime has.
func tell(w *world.World) string {
	return fmt.Sprint(w.Containers(), w.Images(), w.Waiting())
}

func container(id string, state, tries, last int) api.Container {
	return api.Container{Id: id, Box: api.Box{State: state, Tries: tries}, Last: last}
}

func has(t *testing.T, w *world.World, l ...api.Container) {
	t.Helper()
	if !slices.Equal(w.Containers(), l) {
		t.Errorf("%v, not %v", w.Containers(), l)
	}
}

// P16.1.
func TestFeed(t *testing.T) {
	w := world.New(3)
	if len(w.Waiting()) != 0 || len(w.Containers()) != 0 || len(w.Images()) != 0 {
		t.Error("a new one has something")
	}
	if w.Feed(nil) != api.OK || w.Feed([]bool{true, false}) != api.OK || w.Feed([]bool{}) != api.OK || w.Feed([]bool{false}) != api.OK {
		t.Error("fed")
	}
	if !slices.Equal(w.Waiting(), []bool{true, false, false}) {
		t.Error(w.Waiting())
	}
	if w.Feed(make([]bool, api.MaxFeed-2)) != api.ErrFull || len(w.Waiting()) != 3 {
		t.Error("too many", len(w.Waiting()))
	}
	if w.Feed(make([]bool, api.MaxFeed-3)) != api.OK || len(w.Waiting()) != api.MaxFeed {
		t.Error("just as many", len(w.Waiting()))
	}
	if w.Feed([]bool{true}) != api.ErrFull || w.Feed(nil) != api.OK || len(w.Waiting()) != api.MaxFeed {
		t.Error("one more")
	}
	w.Create("a", 1)
	if well, err := w.Ask("a", api.DoRemove, 1); !well || err != api.OK || w.Feed([]bool{true}) != api.OK {
		t.Error("room again")
	}
	if world.New(0).Feed(make([]bool, api.MaxFeed+1)) != api.ErrFull {
		t.Error("all at once")
	}
}

// P16.2, P16.4.
func TestCreate(t *testing.T) {
	w := world.New(1)
	w.Feed([]bool{false})
	for i, id := range []string{"b", "", "\xff", "a", "ab"} {
		if w.Create(id, i) != api.OK || w.Create(id, 99) != api.ErrTwice {
			t.Error(id)
		}
	}
	has(t, w, container("", 1, 0, 1), container("a", 1, 0, 3), container("ab", 1, 0, 4), container("b", 1, 0, 0), container("\xff", 1, 0, 2))
	if b, ok := w.Box("ab"); b != box.New() || !ok {
		t.Error(b, ok)
	}
	if b, ok := w.Box("x"); b != (api.Box{}) || ok {
		t.Error(b, ok)
	}
	if len(w.Waiting()) != 1 {
		t.Error("an outcome was taken")
	}
}

// P16.2, P16.3: the chapter's example, and a container's life.
func TestLife(t *testing.T) {
	w := world.New(2)
	w.Create("x", 0)
	w.Feed([]bool{false})
	w.Create("a", 3)
	if well, came, err := w.Pull("a", "web", 7, 4); well || came || err != api.OK {
		t.Error(well, came, err)
	}
	has(t, w, container("a", api.Created, 1, 3), container("x", 1, 0, 0))
	if len(w.Images()) != 0 {
		t.Error("no image came")
	}
	if well, came, err := w.Pull("a", "web", 7, 5); !well || !came || err != api.OK {
		t.Error(well, came, err)
	}
	has(t, w, container("a", api.Pulled, 0, 5), container("x", 1, 0, 0))
	for i, x := range []struct {
		what, state int
		well        bool
	}{{api.DoStart, api.Pulled, false}, {api.DoStart, api.Up, true}, {api.DoStop, api.Up, false}, {api.DoStop, api.Down, true}, {api.DoRemove, api.Down, false}} {
		w.Feed([]bool{x.well})
		if well, err := w.Ask("a", x.what, 10+i); well != x.well || err != api.OK {
			t.Error(i, well, err)
		}
		b, _ := w.Box("a")
		if b.State != x.state || (b.Tries == 0) != x.well || len(w.Waiting()) != 0 {
			t.Error(i, b)
		}
	}
	has(t, w, container("a", api.Down, 1, 13), container("x", 1, 0, 0))
	if well, err := w.Ask("a", api.DoRemove, 20); !well || err != api.OK {
		t.Error(well, err)
	}
	has(t, w, container("x", 1, 0, 0))
	if w.Create("a", 30) != api.OK {
		t.Error("created again")
	}
	has(t, w, container("a", 1, 0, 30), container("x", 1, 0, 0))
}

// P16.2: the runtime's retries count.
func TestBreaks(t *testing.T) {
	for retries := range 4 {
		w := world.New(retries)
		w.Create("a", 0)
		w.Feed(slices.Repeat([]bool{false}, retries+2))
		for i := range retries + 1 {
			if b, _ := w.Box("a"); b != (api.Box{State: api.Created, Tries: i}) {
				t.Error(retries, i, b)
			}
			w.Pull("a", "web", 1, 9)
		}
		has(t, w, container("a", api.Broken, retries+1, 0))
		if well, err := w.Ask("a", api.DoRemove, 9); well || err != api.OK {
			t.Error(well, err)
		}
		has(t, w, container("a", api.Broken, retries+2, 0))
	}
}

// P16.2, P16.3: what is refused changes nothing, and takes no outcome.
func TestRefused(t *testing.T) {
	w := world.New(0)
	w.Create("made", 1)
	w.Create("up", 1)
	w.Create("broken", 1)
	w.Pull("up", "web", 7, 1)
	w.Ask("up", api.DoStart, 1)
	w.Feed([]bool{false})
	w.Pull("broken", "db", 7, 1)
	w.Feed([]bool{false, true, false})
	before := tell(w)
	for _, x := range []struct {
		id   string
		what int
		want api.Errno
	}{
		{"none", api.DoStart, api.ErrNone}, {"none", api.DoPull, api.ErrNone}, {"none", 0, api.ErrNone}, {"none", 99, api.ErrNone},
		{"made", api.DoPull, api.ErrState}, {"made", api.DoStart, api.ErrState}, {"made", api.DoStop, api.ErrState}, {"made", 0, api.ErrState}, {"made", 5, api.ErrState},
		{"up", api.DoPull, api.ErrState}, {"up", api.DoStart, api.ErrState}, {"up", api.DoRemove, api.ErrState}, {"up", -1, api.ErrState},
		{"broken", api.DoPull, api.ErrState}, {"broken", api.DoStart, api.ErrState}, {"broken", api.DoStop, api.ErrState},
	} {
		if well, err := w.Ask(x.id, x.what, 9); well || err != x.want || tell(w) != before {
			t.Error(x, well, err)
		}
	}
	for _, x := range []struct {
		id   string
		want api.Errno
	}{{"none", api.ErrNone}, {"up", api.ErrState}, {"broken", api.ErrState}} {
		for _, name := range []string{"web", "db"} {
			if well, came, err := w.Pull(x.id, name, 3, 9); well || came || err != x.want || tell(w) != before {
				t.Error(x, well, came, err)
			}
		}
	}
	for _, name := range []string{"db", "", "we"} {
		if well, err := w.Drop(name); well || err != api.ErrNone || tell(w) != before {
			t.Error(name, well, err)
		}
	}
}

// P16.3.
func TestImages(t *testing.T) {
	w := world.New(0)
	w.Create("a", 0)
	w.Create("b", 0)
	w.Create("c", 0)
	w.Pull("b", "web", 7, 2)
	w.Feed([]bool{false, true})
	if well, came, err := w.Pull("a", "web", 99, 5); !well || came || err != api.OK || len(w.Waiting()) != 2 {
		t.Error("the image is there", well, came, err, w.Waiting())
	}
	has(t, w, container("a", api.Pulled, 0, 5), container("b", api.Pulled, 0, 2), container("c", api.Created, 0, 0))
	if !slices.Equal(w.Images(), []api.Image{{Name: "web", Size: 7, Last: 5}}) {
		t.Error(w.Images())
	}
	if well, err := w.Drop("web"); well || err != api.OK || len(w.Images()) != 1 || len(w.Waiting()) != 1 {
		t.Error("it stays", well, err)
	}
	w.Feed([]bool{true})
	if well, err := w.Drop("web"); !well || err != api.OK || len(w.Images()) != 0 || len(w.Waiting()) != 1 {
		t.Error("it goes", well, err)
	}
	if well, came, _ := w.Pull("c", "", 0, 6); !well || !came || len(w.Waiting()) != 0 {
		t.Error("an image of no name", well, came)
	}
	w.Create("d", 0)
	w.Pull("d", "app", 3, 6)
	w.Touch([]string{"app", "x", "app"}, 8)
	if !slices.Equal(w.Images(), []api.Image{{Name: "", Size: 0, Last: 6}, {Name: "app", Size: 3, Last: 8}}) {
		t.Error(w.Images())
	}
	if well, err := w.Drop("app"); !well || err != api.OK {
		t.Error("without outcomes it goes", well, err)
	}
}

// P16.5: one is asked, the others stay; outcomes go in order.
func TestModel(t *testing.T) {
	random := rand.New(rand.NewSource(16))
	for range 200 {
		retries := random.Intn(3)
		w := world.New(retries)
		var wait []bool
		model := map[string]api.Container{}
		for round := range 60 {
			id := fmt.Sprint(random.Intn(5))
			c, there := model[id]
			switch what := random.Intn(7); {
			case what == 0:
				well := []bool{random.Intn(2) == 0, random.Intn(2) == 0}
				w.Feed(well)
				wait = append(wait, well...)
			case what < 3:
				if (w.Create(id, round) == api.OK) == there {
					t.Fatal("created", id)
				}
				if !there {
					model[id] = container(id, api.Created, 0, round)
				}
			default:
				what = 1 + random.Intn(4)
				next := len(wait) == 0 || wait[0]
				var well bool
				var err api.Errno
				if what == api.DoPull {
					well, _, err = w.Pull(id, fmt.Sprint("image", id, round), 1, round)
				} else {
					well, err = w.Ask(id, what, round)
				}
				if !there || !box.May(c.Box, what) {
					if err == api.OK || well {
						t.Fatal(id, what, err)
					}
					break
				}
				if err != api.OK || well != next {
					t.Fatal(id, what, well, err)
				}
				wait = wait[min(1, len(wait)):]
				c.Box, _ = box.Do(c.Box, what, well, retries)
				if well {
					c.Last = round
				}
				model[id] = c
				if c.Box.State == api.Gone {
					delete(model, id)
				}
			}
			var want []api.Container
			for _, id := range slices.Sorted(maps.Keys(model)) {
				want = append(want, model[id])
			}
			has(t, w, want...)
			if !slices.Equal(w.Waiting(), wait) {
				t.Fatal(w.Waiting(), wait)
			}
		}
	}
}

// P16.6.
func TestHandedInStays(t *testing.T) {
	w := world.New(1)
	well := append(make([]bool, 0, 9), true, false)
	w.Feed(well)
	well[0] = false
	w.Feed([]bool{true})
	w.Create("a", 1)
	w.Pull("a", "web", 7, 1)
	used := []string{"web"}
	w.Touch(used, 2)
	before := tell(w)
	w.Waiting()[0] = true
	w.Containers()[0].Id = "x"
	w.Images()[0].Name = "y"
	_ = append(w.Waiting(), false)
	used[0] = "z"
	if tell(w) != before || !slices.Equal(well, []bool{false, false}) || len(w.Images()) != 1 || w.Images()[0].Last != 2 {
		t.Error(tell(w), before, well)
	}
}
