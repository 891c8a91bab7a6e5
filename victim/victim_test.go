package victim_test

import (
	"fmt"
	"math/big"
	"math/rand"
	"slices"
	"strings"
	"testing"

	"bilge/api"
	"bilge/victim"
)

func pod(id string, prio int, critical bool, req ...int) api.Pod {
	p := api.Pod{Id: id, Prio: prio, Critical: critical, Image: "web"}
	copy(p.Req[:], req)
	return p
}

func room(l ...int) [3]int {
	r := [3]int{100, 100, 100}
	copy(r[:], l)
	return r
}

// P21.1.
func TestFits(t *testing.T) {
	const most = api.Most
	for i, x := range []struct {
		room [3]int
		l    []api.Pod
		want bool
	}{
		{[3]int{}, nil, true}, {room(10), []api.Pod{pod("a", 0, false, 4), pod("b", 0, false, 6)}, true}, {room(10), []api.Pod{pod("a", 0, false, 4), pod("b", 0, false, 7)}, false},
		{[3]int{5, 5, 5}, []api.Pod{pod("a", 0, false, 5, 5, 5)}, true}, {[3]int{5, 5, 4}, []api.Pod{pod("a", 0, false, 5, 5, 5)}, false},
		{[3]int{5, 4, 5}, []api.Pod{pod("a", 0, false, 5, 5, 5)}, false}, {[3]int{most, most, most}, []api.Pod{pod("a", 0, false, most)}, false},
		{[3]int{most, most, most}, []api.Pod{pod("a", 0, false, most-1)}, true}, {[3]int{most, most, most}, []api.Pod{pod("a", 0, false, most-1), pod("b", 0, false, 1)}, false},
		{[3]int{most, most, most}, []api.Pod{pod("a", 0, false, 1, 2, most), pod("b", 0, false, 0, 0, most)}, false},
		{[3]int{}, []api.Pod{pod("a", 0, false), pod("b", 0, true)}, true}, {[3]int{}, []api.Pod{pod("a", 0, false, 0, 0, 1)}, false},
	} {
		if victim.Fits(x.room, x.l) != x.want {
			t.Error(i)
		}
	}
}

// P21.1.
func TestMay(t *testing.T) {
	for _, x := range []struct {
		p, v api.Pod
		want bool
	}{
		{pod("a", 5, true), pod("b", 4, false), true}, {pod("a", 5, true), pod("b", 5, false), false}, {pod("a", 5, true), pod("b", 6, false), false},
		{pod("a", 5, true), pod("b", 4, true), false}, {pod("a", 5, false), pod("b", 4, false), false}, {pod("a", 5, false), pod("b", 4, true), false},
		{pod("a", 1<<30, true), pod("b", -1<<30, false), true},
	} {
		if victim.May(x.p, x.v) != x.want {
			t.Error(x)
		}
	}
}

// P21.2.
func TestChoose(t *testing.T) {
	const most = api.Most
	for i, x := range []struct {
		room [3]int
		l    []api.Pod
		p    api.Pod
		want string
		way  bool
	}{
		{room(10), nil, pod("p", 0, false, 10), "", true}, {room(10), nil, pod("p", 0, false, 11), "", false}, {room(10), nil, pod("p", 9, true, 11), "", false},
		{room(10), []api.Pod{pod("a", 1, false, 4), pod("b", 2, false, 4)}, pod("p", 9, true, 5), "a", true},
		{room(10), []api.Pod{pod("b", 2, false, 4), pod("a", 1, false, 4)}, pod("p", 9, true, 5), "a", true},
		{room(10), []api.Pod{pod("a", 2, false, 4), pod("b", 1, false, 4)}, pod("p", 9, true, 5), "b", true},
		{room(10), []api.Pod{pod("b", 1, false, 4), pod("a", 1, false, 4)}, pod("p", 9, true, 5), "b", true},
		{room(10), []api.Pod{pod("a", 1, false, 4), pod("b", 2, false, 4)}, pod("p", 9, true, 2), "", true},
		{room(10), []api.Pod{pod("a", 1, false, 4), pod("b", 2, false, 4)}, pod("p", 9, true, 10), "a b", true},
		{room(10), []api.Pod{pod("a", 1, false, 4), pod("b", 2, false, 4)}, pod("p", 9, false, 5), "", false},
		{room(10), []api.Pod{pod("a", 1, true, 4), pod("b", 2, false, 4)}, pod("p", 9, true, 6), "b", true},
		{room(10), []api.Pod{pod("a", 1, true, 4), pod("b", 2, false, 4)}, pod("p", 9, true, 7), "", false},
		{room(10), []api.Pod{pod("a", 1, false, 4), pod("b", 9, false, 4)}, pod("p", 9, true, 5), "a", true},
		{room(10), []api.Pod{pod("a", 1, false, 3), pod("b", 2, false, 7), pod("c", 3, false, 0)}, pod("p", 9, true, 5), "b", true},
		{room(10), []api.Pod{pod("z", 1, false, 3), pod("b", 2, false, 7), pod("c", 1, false, 3)}, pod("p", 9, true, 5), "b z", true},
		{room(10, 10, 10), []api.Pod{pod("a", 1, false, 0, 9, 0), pod("b", 2, false, 0, 0, 9), pod("c", 3, false, 9, 0, 0)}, pod("p", 9, true, 0, 5, 5), "a b", true},
		{[3]int{most, most, most}, []api.Pod{pod("a", 1, false, most-1), pod("b", 0, false, 1)}, pod("p", 9, true, 0), "b", true},
		{[3]int{most, most, most}, []api.Pod{pod("a", 1, false, most-1)}, pod("p", 9, true, most), "", false},
		{[3]int{}, []api.Pod{pod("a", 1, false), pod("b", 1, false)}, pod("p", 9, true), "", true},
		{room(10), []api.Pod{pod("a", 1, false, 0), pod("b", 2, false, 10)}, pod("p", 9, true, 1), "b", true},
	} {
		got, way := victim.Choose(x.room, x.l, x.p)
		if strings.Join(got, " ") != x.want || way != x.way {
			t.Error(i, got, way)
		}
	}
}

// exactly tells whether exact sums are in the room, and below Most.
func exactly(room [3]int, l []api.Pod) bool {
	for i := range 3 {
		all := new(big.Int)
		for _, p := range l {
			all.Add(all, big.NewInt(int64(p.Req[i])))
		}
		if all.Cmp(big.NewInt(int64(room[i]))) > 0 || all.Cmp(big.NewInt(api.Most)) >= 0 {
			return false
		}
	}
	return true
}

// P21.3.
func TestLaws(t *testing.T) {
	random := rand.New(rand.NewSource(21))
	ways := 0
	for range 5000 {
		greatest := []int{8, 8, api.Most/2 + 5}[random.Intn(3)]
		some := func() int { return random.Intn(greatest) }
		var l, firm []api.Pod
		p := pod("p", random.Intn(5), random.Intn(4) > 0, some(), some(), some())
		for i := range random.Intn(7) {
			v := pod(fmt.Sprint(i), random.Intn(5), random.Intn(5) == 0, some(), some(), some())
			l = append(l, v)
			if !victim.May(p, v) {
				firm = append(firm, v)
			}
		}
		r := [3]int{2 * some(), 2 * some(), 2 * some()}
		for i := range r {
			r[i] = max(r[i], 0)
		}
		goes, way := victim.Choose(r, l, p)
		if way != exactly(r, append(firm, p)) {
			t.Fatal(r, l, p, goes, way)
		}
		if !way || !p.Critical {
			if len(goes) > 0 {
				t.Fatal(goes)
			}
			continue
		}
		ways++
		stay := []api.Pod{p}
		for _, v := range l {
			if !slices.Contains(goes, v.Id) {
				stay = append(stay, v)
			} else if !victim.May(p, v) {
				t.Fatal(v, "may not go")
			}
		}
		if !exactly(r, stay) || !slices.IsSorted(goes) {
			t.Fatal(r, stay, goes)
		}
		for _, v := range l {
			if slices.Contains(goes, v.Id) && exactly(r, append(slices.Clone(stay), v)) {
				t.Fatal(v, "could stay")
			}
		}
		random.Shuffle(len(l), func(i, j int) { l[i], l[j] = l[j], l[i] })
		if again, _ := victim.Choose(r, l, p); !slices.Equal(again, goes) {
			t.Fatal(again, goes)
		}
	}
	if ways < 500 {
		t.Error(ways)
	}
}

// P21.4.
func TestHandedInStays(t *testing.T) {
	l := append(make([]api.Pod, 0, 9), pod("b", 1, false, 4), pod("a", 5, true, 1), pod("c", 2, false, 4))
	again := slices.Clone(l)
	first, _ := victim.Choose(room(10), l, pod("p", 9, true, 6))
	first[0] = "x"
	victim.Fits(room(10), l)
	if !slices.Equal(l, again) || l[:4][3] != (api.Pod{}) {
		t.Error(l)
	}
}
