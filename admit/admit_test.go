package admit_test

import (
	"fmt"
	"math/big"
	"math/rand"
	"reflect"
	"slices"
	"testing"

	"bilge/admit"
	"bilge/api"
	"bilge/victim"
)

func pod(id string, prio int, critical bool, req ...int) api.Pod {
	p := api.Pod{Id: id, Prio: prio, Critical: critical, Image: "web"}
	copy(p.Req[:], req)
	return p
}

func table(l ...api.Pod) []api.Entry {
	var all []api.Entry
	for i, p := range l {
		all = append(all, api.Entry{Pod: p, Phase: 1 + i%3})
	}
	return all
}

func config(cpu, mem, pids int) api.Config {
	return api.Config{Capacity: [3]int{api.Most, 1, api.Most}, Allocatable: [3]int{cpu, mem, pids}, Period: 1, MaxAge: 1}
}

func same(a, b api.Verdict) bool {
	return a.Kind == b.Kind && a.Signal == b.Signal && slices.Equal(a.Go, b.Go)
}

// P23.1: all conditions, all kinds of pods.
func TestBarred(t *testing.T) {
	best, burst, sure := pod("a", 0, false), pod("b", 0, false, 0, 1), pod("c", 0, false, 1, 1)
	sure.Lim = sure.Req
	for i := range 8 {
		on := [3]bool{i&1 != 0, i&2 != 0, i&4 != 0}
		for _, p := range []api.Pod{best, burst, sure} {
			want, barred := 0, false
			switch {
			case on[0] && p.Id == "a":
				barred = true
			case on[1]:
				want, barred = api.Disk, true
			case on[2]:
				want, barred = api.Pid, true
			}
			if got, ok := admit.Barred(on, p); got != want || ok != barred {
				t.Error(on, p.Id, got, ok)
			}
			p.Critical = true
			if got, ok := admit.Barred(on, p); got != 0 || ok {
				t.Error(on, "critical", got, ok)
			}
		}
	}
}

// P23.2: errors, and their order.
func TestErrors(t *testing.T) {
	var full []api.Pod
	for i := range api.MaxPods {
		full = append(full, pod(fmt.Sprint("p", i), 0, false))
	}
	on := [3]bool{true, true, true}
	for i, x := range []struct {
		l    []api.Entry
		p    api.Pod
		want api.Errno
	}{
		{nil, api.Pod{}, api.ErrArg}, {nil, pod("A", 0, false), api.ErrArg}, {nil, pod("a", 0, false, -1), api.ErrArg}, {nil, pod("a", api.MaxPrio+1, true), api.ErrArg},
		{table(full...), pod("p5", api.MaxPrio+1, false), api.ErrArg}, {table(pod("a", 0, false)), pod("a", 9, true), api.ErrTwice},
		{table(pod("x", 0, false), pod("a", 0, false), pod("b", 0, false)), pod("a", 0, false), api.ErrTwice}, {table(full...), pod("p63", 0, false), api.ErrTwice},
		{table(pod("x", 0, false), pod("y", 0, false), pod("a", 0, false)), pod("a", 9, true), api.ErrTwice},
		{table(full...), pod("a", 0, false), api.ErrFull}, {table(full...), pod("a", 9, true), api.ErrFull},
	} {
		if v, err := admit.Decide(config(9, 9, 9), x.l, on, x.p); !same(v, api.Verdict{}) || err != x.want {
			t.Error(i, v, err)
		}
	}
	if v, err := admit.Decide(config(9, 9, 9), table(full[1:]...), [3]bool{}, pod("a", 0, false)); v.Kind != api.Yes || err != api.OK {
		t.Error("63 pods", v, err)
	}
}

// P23.2: verdicts.
func TestDecide(t *testing.T) {
	off, memory, disk, pid, all := [3]bool{}, [3]bool{true}, [3]bool{false, true}, [3]bool{false, false, true}, [3]bool{true, true, true}
	two := table(pod("a", 1, false, 4), pod("b", 2, false, 4), pod("c", 9, true, 1))
	ask := func(n int) [3]int { return [3]int{n, 100, 100} }
	for i, x := range []struct {
		room [3]int
		l    []api.Entry
		on   [3]bool
		p    api.Pod
		want api.Verdict
	}{
		{ask(10), nil, off, pod("p", 0, false), api.Verdict{Kind: api.Yes}}, {ask(10), nil, off, pod("p", 0, false, 10), api.Verdict{Kind: api.Yes}},
		{ask(10), nil, off, pod("p", 0, false, 11), api.Verdict{Kind: api.Room}}, {ask(10), two, off, pod("p", 9, false, 1), api.Verdict{Kind: api.Yes}},
		{ask(10), two, off, pod("p", 9, false, 2), api.Verdict{Kind: api.Room}}, {ask(10), two, off, pod("p", 9, true, 5), api.Verdict{Kind: api.Instead, Go: []string{"a"}}},
		{ask(10), two, off, pod("p", 9, true, 9), api.Verdict{Kind: api.Instead, Go: []string{"a", "b"}}}, {ask(10), two, off, pod("p", 9, true, 10), api.Verdict{Kind: api.Room}},
		{ask(10), two, all, pod("p", 9, true, 5), api.Verdict{Kind: api.Instead, Go: []string{"a"}}}, {ask(10), two, all, pod("p", 9, true, 1), api.Verdict{Kind: api.Yes}},
		{ask(10), two, memory, pod("p", 0, false), api.Verdict{Kind: api.Pressure, Signal: api.Memory}}, {ask(10), two, memory, pod("p", 0, false, 1), api.Verdict{Kind: api.Yes}},
		{ask(10), two, disk, pod("p", 0, false, 1), api.Verdict{Kind: api.Pressure, Signal: api.Disk}}, {ask(10), two, pid, pod("p", 0, false, 99), api.Verdict{Kind: api.Pressure, Signal: api.Pid}},
		{ask(10), two, all, pod("p", 0, false, 1), api.Verdict{Kind: api.Pressure, Signal: api.Disk}}, {ask(10), two, all, pod("p", 0, false), api.Verdict{Kind: api.Pressure, Signal: api.Memory}},
		{[3]int{api.Most, 9, 9}, nil, off, pod("p", 0, false, api.Most), api.Verdict{Kind: api.Room}},
		{[3]int{api.Most, 9, 9}, table(pod("a", 0, false, api.Most-1)), off, pod("p", 0, false, 1), api.Verdict{Kind: api.Room}},
		{[3]int{9, 9, 5}, table(pod("a", 3, false, 0, 0, 3), pod("b", 2, false, 0, 0, 2)), off, pod("p", 5, true, 0, 0, 2), api.Verdict{Kind: api.Instead, Go: []string{"b"}}},
		{[3]int{}, two[:0], off, pod("p", 5, false), api.Verdict{Kind: api.Yes}},
	} {
		if v, err := admit.Decide(config(x.room[0], x.room[1], x.room[2]), x.l, x.on, x.p); !same(v, x.want) || err != api.OK {
			t.Error(i, v, err)
		}
	}
}

// P23.3.
func TestLaws(t *testing.T) {
	random := rand.New(rand.NewSource(23))
	for range 3000 {
		greatest := []int{8, api.Most/2 + 5}[random.Intn(2)]
		some := func() int { return random.Intn(greatest) }
		var l []api.Pod
		for i := range random.Intn(7) {
			l = append(l, pod(fmt.Sprint(i), random.Intn(5), random.Intn(5) == 0, some(), some(), some()))
		}
		p := pod("p", random.Intn(5), random.Intn(2) == 0, some(), some(), some())
		c := config(2*max(some(), 1), max(some(), 1), max(some(), 1))
		on := [3]bool{random.Intn(4) == 0, random.Intn(4) == 0, random.Intn(4) == 0}
		v, err := admit.Decide(c, table(l...), on, p)
		if err != api.OK {
			t.Fatal(err)
		}
		var stay, firm []api.Pod
		for _, x := range l {
			if !slices.Contains(v.Go, x.Id) {
				stay = append(stay, x)
			}
			if !victim.May(p, x) {
				firm = append(firm, x)
			}
		}
		if (v.Kind == api.Yes || v.Kind == api.Instead) && !exactly(c, append(slices.Clone(stay), p)) {
			t.Fatal(c, l, p, v)
		}
		if p.Critical && (v.Kind == api.Pressure || (v.Kind == api.Room) != !exactly(c, append(firm, p))) {
			t.Fatal(c, l, p, v)
		}
		if (v.Kind == api.Instead) != (len(v.Go) > 0) || v.Kind != api.Pressure && v.Signal != 0 {
			t.Fatal(v)
		}
		for _, x := range l {
			if slices.Contains(v.Go, x.Id) && exactly(c, append(slices.Clone(stay), p, x)) {
				t.Fatal(x, "could stay")
			}
		}
	}
}

// exactly tells whether exact sums are in what may be asked for, and below Most.
func exactly(c api.Config, l []api.Pod) bool {
	for i, room := range c.Allocatable {
		all := new(big.Int)
		for _, p := range l {
			all.Add(all, big.NewInt(int64(p.Req[i])))
		}
		if all.Cmp(big.NewInt(int64(room))) > 0 || all.Cmp(big.NewInt(api.Most)) >= 0 {
			return false
		}
	}
	return true
}

// P23.4.
func TestHandedInStays(t *testing.T) {
	l := table(pod("b", 1, false, 4), pod("a", 0, false, 4))
	c := config(9, 9, 9)
	c.Thresholds = []api.Threshold{{Signal: 1, Percent: 5}}
	first, _ := admit.Decide(c, l, [3]bool{}, pod("p", 9, true, 9))
	second, _ := admit.Decide(c, l, [3]bool{}, pod("p", 9, true, 9))
	first.Go[0] = "x"
	if !reflect.DeepEqual(l, table(pod("b", 1, false, 4), pod("a", 0, false, 4))) || !slices.Equal(second.Go, []string{"a", "b"}) || c.Thresholds[0].Percent != 5 {
		t.Error(l, second)
	}
}
