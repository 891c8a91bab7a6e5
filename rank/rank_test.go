package rank_test

import (
	"fmt"
	"math/rand"
	"reflect"
	"slices"
	"strings"
	"testing"

	"bilge/api"
	"bilge/rank"
	"bilge/sample"
)

func pod(id string, prio, mem, pids int) api.Pod {
	return api.Pod{Id: id, Prio: prio, Req: [3]int{77, mem, pids}, Image: "web"}
}

func entry(p api.Pod, phase int) api.Entry { return api.Entry{Pod: p, Phase: phase} }

func read(l ...api.Usage) api.Sample {
	s, err := sample.Read(api.Raw{Use: l})
	if err != api.OK {
		panic(err)
	}
	return s
}

func use(id string, mem, disk, pids float64) api.Usage {
	return api.Usage{Id: id, Amount: [3]float64{mem, disk, pids}}
}

// P20.1.
func TestMay(t *testing.T) {
	for _, phase := range []int{api.Admitted, api.Running, api.Terminating} {
		for _, critical := range []bool{false, true} {
			p := pod("a", 0, 1, 1)
			p.Critical = critical
			if rank.May(entry(p, phase)) != (!critical && phase != api.Terminating) {
				t.Error(phase, critical)
			}
		}
	}
}

// P20.1.
func TestAsked(t *testing.T) {
	p := api.Pod{Id: "a", Req: [3]int{3, 4, 5}, Lim: [3]int{30, 40, 50}, Size: 9, Image: "b"}
	if rank.Asked(p, api.Memory) != 4 || rank.Asked(p, api.Disk) != 0 || rank.Asked(p, api.Pid) != 5 {
		t.Error("asked")
	}
}

// P20.1: each key.
func TestAhead(t *testing.T) {
	s := read(use("a", 10, 10, 10), use("b", 10, 10, 10), use("c", 20, 0, 5), use("d", 1e30, 1e30, 1e30))
	for i, x := range []struct {
		signal int
		a, b   api.Pod
		want   bool
	}{
		{api.Memory, pod("a", 5, 9, 0), pod("b", 0, 10, 0), true},           // over, of a higher priority
		{api.Memory, pod("a", 5, 10, 0), pod("b", 0, 9, 0), false},          // not over
		{api.Memory, pod("a", 5, 9, 0), pod("b", 4, 9, 0), false},           // both over
		{api.Memory, pod("a", 4, 9, 0), pod("c", 5, 0, 0), true},            // less priority stands ahead of excess
		{api.Memory, pod("a", 5, 7, 0), pod("c", 5, 16, 0), false},          // 3 and 4
		{api.Memory, pod("a", 5, 7, 0), pod("c", 5, 18, 0), true},           // 3 and 2
		{api.Memory, pod("a", 5, 7, 0), pod("c", 5, 17, 0), true},           // by Id
		{api.Memory, pod("a", -5, 11, 0), pod("b", 5, 10, 0), true},         // both not over
		{api.Memory, pod("a", 5, 12, 0), pod("b", 5, 11, 0), false},         // -2 and -1
		{api.Memory, pod("a", 5, 11, 0), pod("b", 5, 11, 0), true},          // by Id
		{api.Memory, pod("a", 5, 9, 0), pod("a", 5, 9, 0), false},           // itself
		{api.Memory, pod("x", 5, 0, 0), pod("y", 5, 0, 0), true},            // the sample doesn't tell
		{api.Memory, pod("x", 5, 0, 0), pod("a", 5, 10, 0), false},          // 0 and 0, by Id
		{api.Memory, pod("d", 5, 0, 0), pod("a", 5, 0, 0), true},            // Most
		{api.Memory, pod("d", 5, api.Most, 0), pod("a", 5, 9, 0), false},    // not over
		{api.Memory, pod("x", 5, api.Most, 0), pod("y", 5, 0, 0), false},    // -Most
		{api.Disk, pod("a", 5, 99, 99), pod("c", 0, 99, 99), true},          // of Disk nothing is asked for
		{api.Disk, pod("c", 5, 0, 0), pod("x", 5, 0, 0), true},              // both use nothing
		{api.Disk, pod("a", 5, 0, 0), pod("d", 5, 0, 0), false},             // 10 and Most
		{api.Pid, pod("a", 5, 0, 10), pod("c", 9, 0, 4), false},             // only c is over
		{api.Pid, pod("a", 5, 0, 9), pod("c", 5, 0, 1), false},              // 1 and 4
		{api.Pid, pod("a", 5, 99, 5), pod("c", 5, 0, 1), true},              // 5 and 4
		{api.Memory, pod("a", -1<<30, 0, 0), pod("c", 1<<30, 0, 0), true},   // the priorities' edges
		{api.Memory, pod("ab", 0, 0, 0), pod("a-", 0, 0, 0), false},         // byte by byte
		{api.Memory, pod("a0", 0, 0, 0), pod("a00", 0, 0, 0), true},         // the shorter one
		{api.Memory, pod("9", 0, 0, 0), pod("a1", 0, 0, 0), true},           // digits are less
		{api.Memory, pod("d", 0, 1, 0), pod("c", 0, 0, 0), true},            // Most - 1 and 20
		{api.Memory, pod("d", 0, api.Most-1, 0), pod("c", 0, 19, 0), false}, // 1 and 1, by Id
	} {
		if got := rank.Ahead(x.signal, x.a, x.b, s); got != x.want {
			t.Error(i, got)
		}
		if x.a.Id != x.b.Id && rank.Ahead(x.signal, x.b, x.a, s) == x.want {
			t.Error(i, "the other way round")
		}
	}
	if !rank.Ahead(api.Memory, pod("a", 0, 0, 0), pod("b", 0, 0, 0), api.Sample{}) || rank.Ahead(api.Memory, pod("a", 1, 0, 0), pod("b", 0, 0, 0), api.Sample{}) {
		t.Error("without a sample")
	}
}

// P20.2.
func TestOrderAndFirst(t *testing.T) {
	critical := pod("k", -9, 0, 0)
	critical.Critical = true
	l := []api.Entry{
		entry(pod("a", 0, 7, 0), api.Running), entry(pod("b", 0, 5, 0), api.Admitted), entry(pod("c", -5, 50, 0), api.Running),
		entry(pod("d", -9, 0, 0), api.Terminating), entry(critical, api.Running), entry(pod("e", 3, 0, 0), api.Admitted),
	}
	s := read(use("a", 10, 1, 0), use("b", 10, 5, 0), use("c", 10, 0, 0), use("d", 99, 99, 99), use("e", 99, 2, 0), use("k", 99, 99, 99))
	for signal, want := range []string{"b a e c", "b a e c", "c a b e"} {
		if got := rank.Order(signal, l, s); strings.Join(got, " ") != want {
			t.Error(signal, got)
		}
		if got, ok := rank.First(signal, l, s); got != want[:1] || !ok {
			t.Error(signal, got, ok)
		}
	}
	for _, l := range [][]api.Entry{nil, {}, l[3:5]} {
		if got, ok := rank.First(api.Memory, l, s); got != "" || ok || len(rank.Order(api.Memory, l, s)) != 0 {
			t.Error(got, ok)
		}
	}
}

// P20.3.
func TestLaws(t *testing.T) {
	random := rand.New(rand.NewSource(20))
	for range 400 {
		var l []api.Entry
		var uses []api.Usage
		for i := range random.Intn(9) {
			p := pod(fmt.Sprint(i), random.Intn(3), random.Intn(3), random.Intn(3))
			p.Critical = random.Intn(5) == 0
			l = append(l, entry(p, 1+random.Intn(3)))
			if random.Intn(4) > 0 {
				uses = append(uses, use(p.Id, float64(random.Intn(4)), float64(random.Intn(2)), float64(random.Intn(4))))
			}
		}
		s, signal := read(uses...), random.Intn(3)
		ahead := func(i, j int) bool { return rank.Ahead(signal, l[i].Pod, l[j].Pod, s) }
		for i := range l {
			for j := range l {
				if i == j && ahead(i, j) || i != j && ahead(i, j) == ahead(j, i) {
					t.Fatal(l, s)
				}
				for k := range l {
					if ahead(i, j) && ahead(j, k) && !ahead(i, k) {
						t.Fatal(l, s)
					}
				}
			}
		}
		order := rank.Order(signal, l, s)
		var only []api.Entry
		for _, e := range l {
			if rank.May(e) {
				only = append(only, e)
			}
		}
		random.Shuffle(len(only), func(i, j int) { only[i], only[j] = only[j], only[i] })
		if len(only) != len(order) || !slices.Equal(rank.Order(signal, only, s), order) {
			t.Fatal(order, rank.Order(signal, only, s))
		}
		find := func(id string) int { return slices.IndexFunc(l, func(e api.Entry) bool { return e.Pod.Id == id }) }
		for i := range order {
			for j := range i {
				if !ahead(find(order[j]), find(order[i])) {
					t.Fatal(order)
				}
			}
		}
		for i, u := range uses {
			more := slices.Clone(uses)
			more[i].Amount[signal] += float64(1 + random.Intn(3))
			if slices.Index(rank.Order(signal, l, read(more...)), u.Id) > slices.Index(order, u.Id) {
				t.Fatal("a pod that uses more goes later")
			}
		}
	}
}

// P20.4.
func TestHandedInStays(t *testing.T) {
	l := []api.Entry{entry(pod("b", 5, 1, 1), 1), entry(pod("a", 0, 1, 1), 2)}
	s := read(use("b", 1, 1, 1), use("a", 2, 2, 2))
	first := rank.Order(api.Memory, l, s)
	first[0] = "x"
	rank.First(api.Memory, l, s)
	if l[0] != entry(pod("b", 5, 1, 1), 1) || l[1] != entry(pod("a", 0, 1, 1), 2) || !reflect.DeepEqual(s, read(use("b", 1, 1, 1), use("a", 2, 2, 2))) {
		t.Error(l, s)
	}
}
