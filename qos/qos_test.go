package qos_test

import (
	"math/big"
	"math/rand"
	"slices"
	"testing"

	"bilge/api"
	"bilge/qos"
)

func ask(req, lim [3]int) api.Pod {
	return api.Pod{Id: "a", Image: "b", Prio: 3, Size: 5, Req: req, Lim: lim}
}

// P13.1.
func TestClass(t *testing.T) {
	for i, x := range []struct {
		req, lim [3]int
		want     int
	}{
		{[3]int{}, [3]int{}, api.BestEffort},
		{[3]int{1, 1, 0}, [3]int{1, 1, 0}, api.Guaranteed}, {[3]int{1, 1, 5}, [3]int{1, 1, 0}, api.Guaranteed}, {[3]int{1, 1, 5}, [3]int{1, 1, 9}, api.Guaranteed},
		{[3]int{api.Most, 7, 0}, [3]int{api.Most, 7, 0}, api.Guaranteed},
		{[3]int{1, 1, 0}, [3]int{1, 2, 0}, api.Burstable}, {[3]int{1, 1, 0}, [3]int{2, 1, 0}, api.Burstable}, {[3]int{1, 1, 0}, [3]int{1, 0, 0}, api.Burstable},
		{[3]int{1, 1, 0}, [3]int{0, 1, 0}, api.Burstable}, {[3]int{1, 1, 0}, [3]int{}, api.Burstable}, {[3]int{}, [3]int{1, 1, 0}, api.Burstable},
		{[3]int{1, 0, 0}, [3]int{1, 0, 0}, api.Burstable}, {[3]int{0, 1, 0}, [3]int{0, 1, 0}, api.Burstable}, {[3]int{0, 0, 1}, [3]int{}, api.Burstable},
		{[3]int{}, [3]int{0, 0, 1}, api.Burstable}, {[3]int{0, 0, 1}, [3]int{0, 0, 1}, api.Burstable}, {[3]int{}, [3]int{1, 0, 0}, api.Burstable},
		{[3]int{}, [3]int{0, 1, 0}, api.Burstable}, {[3]int{0, 1, 0}, [3]int{5, 1, 0}, api.Burstable}, {[3]int{1, 0, 0}, [3]int{1, 5, 0}, api.Burstable},
	} {
		p := ask(x.req, x.lim)
		if got := qos.Class(p); got != x.want {
			t.Error(i, got)
		}
		p.Critical, p.Prio, p.Size, p.Id, p.Image = true, -7, 0, "x", "y"
		if got := qos.Class(p); got != x.want {
			t.Error(i, "what isn't asked for matters", got)
		}
	}
}

// P13.1.
func TestCount(t *testing.T) {
	best, burst, sure := ask([3]int{}, [3]int{}), ask([3]int{1, 0, 0}, [3]int{}), ask([3]int{1, 1, 0}, [3]int{1, 1, 0})
	if qos.Count(nil) != [4]int{} {
		t.Error("of none")
	}
	if got := qos.Count([]api.Pod{best, burst, best, sure, burst, best}); got != [4]int{0, 1, 2, 3} {
		t.Error(got)
	}
}

// P13.2.
func TestThousandths(t *testing.T) {
	for _, x := range [][3]int{
		{0, 1, 0}, {1, 1, 1000}, {1, 2, 500}, {1, 3, 333}, {2, 3, 666}, {999, 1000, 999}, {1000, 1000, 1000}, {1001, 1000, 1000}, {1, 1000, 1}, {1, 1001, 0},
		{2, 1999, 1}, {api.Most, api.Most, 1000}, {api.Most - 1, api.Most, 999}, {api.Most / 2, api.Most, 499}, {1 << 62, api.Most, 500}, {1, api.Most, 0},
		{api.Most, 1, 1000}, {9223372036854775, api.Most, 0}, {9223372036854776, api.Most, 1}, {0, api.Most, 0},
	} {
		if got := qos.Thousandths(x[0], x[1]); got != x[2] {
			t.Errorf("Thousandths(%d, %d) = %d, not %d", x[0], x[1], got, x[2])
		}
	}
	random := rand.New(rand.NewSource(13))
	for range 5000 {
		whole := 1 + random.Intn(api.Most)>>random.Intn(63)
		part := random.Int() >> random.Intn(63)
		want := new(big.Int).Mul(big.NewInt(int64(part)), big.NewInt(1000))
		want.Quo(want, big.NewInt(int64(whole)))
		if want.Cmp(big.NewInt(1000)) > 0 {
			want.SetInt64(1000)
		}
		if got := qos.Thousandths(part, whole); int64(got) != want.Int64() {
			t.Fatalf("Thousandths(%d, %d) = %d, not %v", part, whole, got, want)
		}
	}
}

// P13.2.
func TestScore(t *testing.T) {
	mem := func(n int) api.Pod { return ask([3]int{0, n, 0}, [3]int{}) }
	critical := func(p api.Pod) api.Pod { p.Critical = true; return p }
	sure := ask([3]int{5, 5, 0}, [3]int{5, 5, 0})
	for i, x := range []struct {
		p            api.Pod
		memory, want int
	}{
		{ask([3]int{}, [3]int{}), 100, 1000}, {critical(ask([3]int{}, [3]int{})), 100, 0}, {sure, 100, 0}, {critical(sure), 1, 0}, {critical(mem(50)), 100, 0},
		{mem(50), 100, 500}, {mem(1), 1000, 999}, {mem(1), 1001, 999}, {mem(2), 1000, 998}, {mem(998), 1000, 2}, {mem(999), 1000, 2}, {mem(1000), 1000, 2},
		{mem(5000), 1000, 2}, {mem(997), 1000, 3}, {ask([3]int{1, 0, 0}, [3]int{}), 1000, 999}, {mem(api.Most), api.Most, 2}, {mem(1 << 62), api.Most, 500},
		{ask([3]int{0, 10, 0}, [3]int{0, 10, 0}), 100, 900}, {ask([3]int{}, [3]int{0, 50, 0}), 100, 999},
	} {
		if got := qos.Score(x.p, x.memory); got != x.want {
			t.Error(i, got, x.want)
		}
	}
}

// P13.3.
func TestMoreMemoryScoresNoMore(t *testing.T) {
	for _, memory := range []int{1, 7, 999, 1000, 1001, 3000} {
		last := 1000
		for n := range 3100 {
			p := ask([3]int{1, n, 0}, [3]int{})
			if got := qos.Score(p, memory); got > last || got < 2 || got > 999 {
				t.Fatal(memory, n, got, last)
			} else {
				last = got
			}
		}
	}
}

// P13.4.
func TestHandedInStays(t *testing.T) {
	l := []api.Pod{ask([3]int{1, 2, 3}, [3]int{}), ask([3]int{}, [3]int{})}
	again := slices.Clone(l)
	qos.Count(l)
	if !slices.Equal(l, again) {
		t.Error(l)
	}
}
