package sweep_test

import (
	"fmt"
	"math"
	"math/rand"
	"slices"
	"strings"
	"testing"

	"bilge/api"
	"bilge/image"
	"bilge/sweep"
)

func box(id string, state, last int) api.Container {
	return api.Container{Id: id, Box: api.Box{State: state}, Last: last}
}

func img(name string, size, last int) api.Image {
	return api.Image{Name: name, Size: size, Last: last}
}

func containers() []api.Container {
	return []api.Container{
		box("a", api.Up, 5), box("b", api.Down, 7), box("c", api.Broken, 3), box("d", api.Created, 7), box("e", api.Up, 1),
		box("f", 99, 3), box("g", api.Pulled, -4), box("h", api.Gone, math.MaxInt), box("i", 0, math.MinInt), box("j", api.Up, 9),
	}
}

// P22.1.
func TestLostAndDead(t *testing.T) {
	for _, x := range []struct{ pods, lost, dead string }{
		{"", "a e j", "i g c f b d h"}, {"a b", "e j", "i g c f d h"}, {"j e x", "a", "i g c f b d h"}, {"i g c f b d h", "a e j", ""},
		{"a a e j", "", "i g c f b d h"}, {"a b c d e f g h i j", "", ""}, {"A", "a e j", "i g c f b d h"},
	} {
		pods := strings.Fields(x.pods)
		if got := strings.Join(sweep.Lost(containers(), pods), " "); got != x.lost {
			t.Errorf("lost of %q: %q", x.pods, got)
		}
		if got := strings.Join(sweep.Dead(containers(), pods), " "); got != x.dead {
			t.Errorf("dead of %q: %q", x.pods, got)
		}
	}
	if len(sweep.Lost(nil, []string{"a"})) != 0 || len(sweep.Dead(nil, nil)) != 0 || len(sweep.Extra(nil, nil, 0)) != 0 {
		t.Error("of none")
	}
	if got := sweep.Lost([]api.Container{box("", api.Up, 0)}, nil); !slices.Equal(got, []string{""}) {
		t.Error("a container of no name", got)
	}
}

// P22.1.
func TestExtra(t *testing.T) {
	for _, x := range []struct {
		keep int
		want string
	}{
		{0, "i g c f b d h"}, {-1, "i g c f b d h"}, {math.MinInt, "i g c f b d h"}, {1, "i g c f b d"}, {3, "i g c f"}, {6, "i"}, {7, ""}, {8, ""}, {math.MaxInt, ""},
	} {
		if got := strings.Join(sweep.Extra(containers(), nil, x.keep), " "); got != x.want {
			t.Errorf("%d: %q", x.keep, got)
		}
	}
	if got := strings.Join(sweep.Extra(containers(), []string{"g", "h"}, 2), " "); got != "i c f" {
		t.Error(got)
	}
}

// P22.2.
func TestCollect(t *testing.T) {
	fives := []api.Image{img("a", 5, 1), img("b", 5, 1), img("c", 5, 1)}
	mixed := []api.Image{img("a", 3, 9), img("b", 1, 2), img("c", 8, 2), img("d", 0, 1), img("e", api.Most, 10)}
	for i, x := range []struct {
		l           []api.Image
		used        string
		need        int
		well        []bool
		want        string
		free, asked int
	}{
		{fives, "", 6, nil, "a b", 10, 2}, {fives, "", 5, nil, "a", 5, 1}, {fives, "", 10, nil, "a b", 10, 2}, {fives, "", 11, nil, "a b c", 15, 3}, {fives, "", 99, nil, "a b c", 15, 3},
		{fives, "", 0, nil, "", 0, 0}, {fives, "", -1, nil, "", 0, 0}, {fives, "", 1, []bool{false}, "b", 5, 2}, {fives, "", 6, []bool{true, false}, "a c", 10, 3},
		{fives, "", 6, []bool{false, false, false, true}, "", 0, 3}, {fives, "b", 6, nil, "a c", 10, 2}, {fives, "a b c", 6, nil, "", 0, 0}, {fives, "a c a x", 6, []bool{false}, "", 0, 1},
		{fives, "", 6, []bool{true, true, false}, "a b", 10, 2}, {nil, "", 5, []bool{true}, "", 0, 0},
		{mixed, "", 1, nil, "d c", 8, 2}, {mixed, "", 9, nil, "d c b", 9, 3}, {mixed, "", 12, nil, "d c b a", 12, 4}, {mixed, "", 13, nil, "d c b a e", api.Most, 5},
		{mixed, "", api.Most, nil, "d c b a e", api.Most, 5}, {mixed, "c", 4, []bool{true, true, false}, "d b e", api.Most, 4}, {mixed, "", 0, []bool{false}, "", 0, 0},
		{mixed, "", 8, []bool{false, true}, "c", 8, 2},
	} {
		got, free, asked := sweep.Collect(x.l, strings.Fields(x.used), x.need, x.well)
		if strings.Join(got, " ") != x.want || free != x.free || asked != x.asked {
			t.Error(i, got, free, asked)
		}
	}
}

// P22.3.
func TestLaws(t *testing.T) {
	random := rand.New(rand.NewSource(22))
	for range 1000 {
		var l []api.Container
		var images []api.Image
		var pods []string
		for i := range random.Intn(8) {
			name := fmt.Sprint(i)
			l = append(l, box(name, random.Intn(8), random.Intn(4)))
			images = append(images, img(name, random.Intn(4), random.Intn(3)))
			if random.Intn(3) == 0 {
				pods = append(pods, name)
			}
		}
		lost, dead := sweep.Lost(l, pods), sweep.Dead(l, pods)
		for _, c := range l {
			n := 0
			for _, in := range []bool{slices.Contains(pods, c.Id), slices.Contains(lost, c.Id), slices.Contains(dead, c.Id)} {
				if in {
					n++
				}
			}
			if n != 1 {
				t.Fatal(c, pods, lost, dead)
			}
		}
		keep := random.Intn(6)
		if extra := sweep.Extra(l, pods, keep); len(extra) != max(0, len(dead)-keep) || !slices.Equal(extra, dead[:len(extra)]) {
			t.Fatal(extra, dead, keep)
		}
		need := random.Intn(9)
		went, free, asked := sweep.Collect(images, pods, need, nil)
		order := image.Order(images, pods)
		all := 0
		for i, name := range went {
			if order[i].Name != name || all >= need {
				t.Fatal(went, order)
			}
			all += order[i].Size
		}
		if free != all || asked != len(went) || free < need && len(went) != len(order) {
			t.Fatal(went, free, asked, need)
		}
	}
}

// P22.4.
func TestHandedInStays(t *testing.T) {
	l, pods, well := containers(), []string{"j", "a"}, []bool{true, false}
	images := []api.Image{img("a", 5, 2), img("b", 5, 1)}
	first, second := sweep.Lost(l, pods), sweep.Dead(l, pods)
	first[0], second[0] = "x", "y"
	third := sweep.Extra(l, pods, 1)
	third[0] = "z"
	_ = append(third, "w")
	went, _, _ := sweep.Collect(images, pods, 9, well)
	went[0] = "v"
	if !slices.Equal(l, containers()) || !slices.Equal(pods, []string{"j", "a"}) || !slices.Equal(well, []bool{true, false}) || images[0] != img("a", 5, 2) || images[1] != img("b", 5, 1) {
		t.Error(l, pods, well, images)
	}
}
