package sample_test

import (
	"fmt"
	"math"
	"math/rand"
	"reflect"
	"slices"
	"testing"

	"bilge/api"
	"bilge/sample"
)

var (
	nan   = math.NaN()
	inf   = math.Inf(1)
	minus = math.Copysign(0, -1)
)

func use(id string, a, b, c float64) api.Usage {
	return api.Usage{Id: id, Amount: [3]float64{a, b, c}}
}

func raw(time int, l ...api.Usage) api.Raw {
	return api.Raw{Time: time, Avail: [3]float64{1, 2, 3}, Use: l}
}

func many(n int) []api.Usage {
	var l []api.Usage
	for i := range n {
		l = append(l, use(fmt.Sprint(i), float64(i), 0, 1))
	}
	return l
}

func zero(s api.Sample) bool { return s.Time == 0 && s.Avail == [3]int{} && len(s.Use) == 0 }

// P17.1.
func TestReadOfRight(t *testing.T) {
	for i, x := range []struct {
		r    api.Raw
		want api.Sample
	}{
		{api.Raw{}, api.Sample{}}, {raw(5), api.Sample{Time: 5, Avail: [3]int{1, 2, 3}}}, {raw(-7), api.Sample{Time: -7, Avail: [3]int{1, 2, 3}}},
		{raw(math.MinInt), api.Sample{Time: math.MinInt, Avail: [3]int{1, 2, 3}}}, {raw(api.Most), api.Sample{Time: api.Most, Avail: [3]int{1, 2, 3}}},
		{api.Raw{Avail: [3]float64{-5, inf, -inf}}, api.Sample{Avail: [3]int{0, api.Most, 0}}}, {api.Raw{Avail: [3]float64{2.9, minus, 1 << 63}}, api.Sample{Avail: [3]int{2, 0, api.Most}}},
		{raw(1, use("b", 1, -1, 2.5), use("a", inf, minus, 0), use("ab", 1, 2, 3), use("-", 0.5, 0, 0)), api.Sample{Time: 1, Avail: [3]int{1, 2, 3}, Use: []api.Use{
			{Id: "-", Amount: [3]int{0, 0, 0}}, {Id: "a", Amount: [3]int{api.Most, 0, 0}}, {Id: "ab", Amount: [3]int{1, 2, 3}}, {Id: "b", Amount: [3]int{1, 0, 2}},
		}}},
	} {
		got, err := sample.Read(x.r)
		if err != api.OK || got.Time != x.want.Time || got.Avail != x.want.Avail || !slices.Equal(got.Use, x.want.Use) || !sample.Right(x.r) {
			t.Error(i, got, err, sample.Right(x.r))
		}
	}
	if s, err := sample.Read(raw(1, many(api.MaxUse)...)); err != api.OK || len(s.Use) != api.MaxUse {
		t.Error("as many as may be", err)
	}
}

// P17.1.
func TestReadOfWrong(t *testing.T) {
	long := "abcdefghijklmnopqrstuvwxy"
	for i, r := range []api.Raw{
		{Avail: [3]float64{nan, 0, 0}}, {Avail: [3]float64{0, nan, 0}}, {Avail: [3]float64{0, 0, nan}}, raw(1, use("a", nan, 0, 0)), raw(1, use("a", 0, 0, nan)),
		raw(1, use("a", 1, 1, 1), use("b", 0, nan, 0)), raw(1, use("", 1, 1, 1)), raw(1, use("A", 1, 1, 1)), raw(1, use(long, 1, 1, 1)), raw(1, use("a b", 1, 1, 1)),
		raw(1, use("a", 1, 1, 1), use("a", 1, 1, 1)), raw(1, use("a", 1, 1, 1), use("b", 1, 1, 1), use("a", 2, 2, 2)), raw(1, use("b", 1, 1, 1), use("a", 1, 1, 1), use("a", 2, 2, 2)),
		raw(1, many(api.MaxUse+1)...), raw(1, append(many(api.MaxUse-1), use("0", 0, 0, 0))...), {Use: many(200)},
	} {
		if s, err := sample.Read(r); !zero(s) || err != api.ErrArg || sample.Right(r) {
			t.Error(i, s, err)
		}
		if s, err := sample.Take(r, -1, 1, 5); !zero(s) || err != api.ErrArg {
			t.Error(i, s, err)
		}
		if s, err := sample.Take(r, 9, 1, 1); !zero(s) || err != api.ErrArg {
			t.Error(i, "ErrArg stands ahead of ErrStale", s, err)
		}
	}
	if !sample.Right(raw(1, use(long[:24], 1, 1, 1))) {
		t.Error("the longest name")
	}
}

// P17.2.
func TestTake(t *testing.T) {
	for _, x := range []struct {
		last, round, most int
		fresh             []int
	}{
		{4, 7, 3, []int{5, 6, 7}}, {-1, 7, 3, []int{5, 6, 7}}, {5, 7, 3, []int{6, 7}}, {7, 7, 3, nil}, {6, 7, 3, []int{7}}, {-1, 7, 1, []int{7}}, {-1, 2, 1000, []int{0, 1, 2}},
		{-1, 0, 1, []int{0}}, {0, 0, 5, nil}, {-1, 7, 8, []int{0, 1, 2, 3, 4, 5, 6, 7}}, {-1, 7, 7, []int{1, 2, 3, 4, 5, 6, 7}}, {-1, 7, api.Most, []int{0, 1, 2, 3, 4, 5, 6, 7}},
	} {
		for time := -3; time < 12; time++ {
			r := raw(time, use("b", 1, 2, 3), use("a", 4, 5, 6))
			got, err := sample.Take(r, x.last, x.round, x.most)
			want, _ := sample.Read(r)
			if slices.Contains(x.fresh, time) {
				if err != api.OK || !reflect.DeepEqual(got, want) {
					t.Error(x, time, got, err)
				}
			} else if err != api.ErrStale || !zero(got) {
				t.Error(x, time, got, err)
			}
		}
		for _, time := range []int{math.MinInt, math.MinInt + 1, -1 << 40, math.MaxInt, api.MaxRound + 1} {
			if got, err := sample.Take(raw(time), x.last, x.round, x.most); err != api.ErrStale || !zero(got) {
				t.Error(x, time, got, err)
			}
		}
	}
	if s, err := sample.Take(raw(api.MaxRound), api.MaxRound-1, api.MaxRound, 1); err != api.OK || s.Time != api.MaxRound {
		t.Error("the last round", err)
	}
}

// P17.3.
func TestOf(t *testing.T) {
	s, _ := sample.Read(raw(1, use("b", 1, 2, 3), use("a", 4, 5, 6), use("c", 0, 0, inf)))
	for _, x := range []struct {
		id   string
		want [3]int
	}{{"a", [3]int{4, 5, 6}}, {"b", [3]int{1, 2, 3}}, {"c", [3]int{0, 0, api.Most}}, {"", [3]int{}}, {"aa", [3]int{}}, {"d", [3]int{}}} {
		if got := sample.Of(s, x.id); got != x.want {
			t.Error(x.id, got)
		}
	}
	if sample.Of(api.Sample{}, "a") != [3]int{} {
		t.Error("of nothing")
	}
	s, _ = sample.Read(raw(1, many(128)...))
	for i := range 128 {
		if sample.Of(s, fmt.Sprint(i)) != [3]int{i, 0, 1} {
			t.Error(i)
		}
	}
}

// P17.4.
func TestLaws(t *testing.T) {
	random := rand.New(rand.NewSource(17))
	for range 300 {
		l := many(random.Intn(8))
		r := raw(random.Intn(10), l...)
		want, _ := sample.Read(r)
		turned := slices.Clone(l)
		random.Shuffle(len(turned), func(i, j int) { turned[i], turned[j] = turned[j], turned[i] })
		for i := range turned {
			for j, f := range turned[i].Amount {
				if f == 0 {
					turned[i].Amount[j] = minus
				}
			}
		}
		if got, _ := sample.Read(raw(r.Time, turned...)); !reflect.DeepEqual(got, want) {
			t.Fatal(got, want)
		}
		last, round, most := random.Intn(10)-1, random.Intn(12), 1+random.Intn(5)
		s, err := sample.Take(r, last, round, most)
		if _, again := sample.Take(r, last, round, most+1); err == api.OK && again != api.OK {
			t.Fatal("a greater age bars more")
		}
		if _, again := sample.Take(r, s.Time, round, most); err == api.OK && again != api.ErrStale {
			t.Fatal("taken once more")
		}
	}
}

// P17.5.
func TestHandedInStays(t *testing.T) {
	l := []api.Usage{use("b", 1, 2, 3), use("a", 4, 5, 6)}
	r := raw(3, l...)
	first, _ := sample.Read(r)
	second, _ := sample.Take(r, 0, 3, 1)
	first.Use[0].Id = "x"
	sample.Right(r)
	if !slices.Equal(l, []api.Usage{use("b", 1, 2, 3), use("a", 4, 5, 6)}) || second.Use[0].Id != "a" {
		t.Error(l, second)
	}
	sample.Of(second, "b")
	if second.Use[0].Id != "a" || second.Use[1].Id != "b" {
		t.Error(second)
	}
}
