package edge_test

import (
	"math"
	"math/big"
	"slices"
	"testing"

	"bilge/api"
	"bilge/edge"
)

var (
	inf   = math.Inf(1)
	minus = math.Copysign(0, -1)
	odd   = math.Float64frombits(0xfff0000000000001) // a NaN with a sign
)

// rising stands in order, with the kinds and what is read.
var rising = []struct {
	f    float64
	kind int
	read int
}{
	{-inf, api.MinusInf, 0}, {-math.MaxFloat64, api.Minus, 0}, {-1 << 63, api.Minus, 0}, {-2.9, api.Minus, 0}, {-1, api.Minus, 0},
	{-0.5, api.Minus, 0}, {-math.SmallestNonzeroFloat64, api.Minus, 0}, {minus, api.MinusNil, 0}, {0, api.Nil, 0},
	{math.SmallestNonzeroFloat64, api.Plus, 0}, {0.5, api.Plus, 0}, {math.Nextafter(1, 0), api.Plus, 0}, {1, api.Plus, 1}, {1.5, api.Plus, 1},
	{2.9, api.Plus, 2}, {3, api.Plus, 3}, {1 << 31, api.Plus, 1 << 31}, {1<<32 + 0.75, api.Plus, 1 << 32}, {1 << 52, api.Plus, 1 << 52},
	{1<<53 - 1, api.Plus, 1<<53 - 1}, {1 << 53, api.Plus, 1 << 53}, {1 << 62, api.Plus, 1 << 62}, {1<<63 - 1024, api.Plus, 1<<63 - 1024},
	{1 << 63, api.Plus, api.Most}, {1<<63 + 2048, api.Plus, api.Most}, {1e300, api.Plus, api.Most}, {math.MaxFloat64, api.Plus, api.Most},
	{inf, api.PlusInf, api.Most},
}

// P3.1.
func TestKindAndRead(t *testing.T) {
	for _, x := range rising {
		if got := edge.Kind(x.f); got != x.kind {
			t.Errorf("Kind(%v) = %d, not %d", x.f, got, x.kind)
		}
		if got, ok := edge.Read(x.f); got != x.read || !ok {
			t.Errorf("Read(%v) = %d, %v, not %d", x.f, got, ok, x.read)
		}
	}
	for _, f := range []float64{math.NaN(), odd, -math.NaN()} {
		if edge.Kind(f) != api.NaN {
			t.Error("a NaN is none")
		}
		if n, ok := edge.Read(f); n != 0 || ok {
			t.Errorf("Read(NaN) = %d, %v", n, ok)
		}
	}
}

// P3.1: read is the whole number that isn't above.
func TestReadAgainstExact(t *testing.T) {
	for i := range 4000 {
		f := math.Ldexp(1+float64(i%97)/97, i%66-2)
		want, _ := big.NewFloat(f).Int(nil)
		if want.Cmp(big.NewInt(api.Most)) > 0 {
			want = big.NewInt(api.Most)
		}
		if n, ok := edge.Read(f); !ok || int64(n) != want.Int64() {
			t.Errorf("Read(%v) = %d, not %v", f, n, want)
		}
	}
}

// P3.1, P3.3: they stand as the list does, NaN behind all.
func TestCompare(t *testing.T) {
	for i, x := range rising {
		for j, y := range rising {
			want := 0
			if i < j {
				want = -1
			} else if i > j {
				want = 1
			}
			if got := edge.Compare(x.f, y.f); got != want {
				t.Errorf("Compare(%v, %v) = %d, not %d", x.f, y.f, got, want)
			}
			if n, _ := edge.Read(x.f); i < j && n > y.read {
				t.Errorf("more is read of %v than of %v", x.f, y.f)
			}
		}
		for _, f := range []float64{math.NaN(), odd} {
			if edge.Compare(x.f, f) != -1 || edge.Compare(f, x.f) != 1 {
				t.Errorf("NaN doesn't stand behind %v", x.f)
			}
		}
	}
	if edge.Compare(math.NaN(), odd) != 0 || edge.Compare(odd, odd) != 0 {
		t.Error("NaN aren't alike")
	}
}

// P3.2.
func TestLeast(t *testing.T) {
	same := func(a, b float64) bool { return a != a && b != b || math.Float64bits(a) == math.Float64bits(b) }
	for i, x := range []struct {
		l    []float64
		want float64
	}{
		{nil, inf}, {[]float64{}, inf}, {[]float64{5}, 5}, {[]float64{5, 2, 7}, 2}, {[]float64{2, 2}, 2},
		{[]float64{0, minus}, minus}, {[]float64{minus, 0}, minus}, {[]float64{math.NaN(), 3}, 3}, {[]float64{3, math.NaN()}, 3},
		{[]float64{math.NaN(), inf}, inf}, {[]float64{math.NaN(), math.NaN()}, math.NaN()}, {[]float64{odd}, math.NaN()},
		{[]float64{-1, -inf, -2}, -inf}, {[]float64{inf}, inf}, {[]float64{0, -math.SmallestNonzeroFloat64, 1}, -math.SmallestNonzeroFloat64},
	} {
		if got := edge.Least(x.l); !same(got, x.want) {
			t.Errorf("%d: Least(%v) = %v, not %v", i, x.l, got, x.want)
		}
	}
}

// P3.2.
func TestAll(t *testing.T) {
	for _, x := range []struct {
		l    []float64
		want []int
		ok   bool
	}{
		{nil, nil, true}, {[]float64{}, nil, true}, {[]float64{2.9, -1, minus, inf}, []int{2, 0, 0, api.Most}, true},
		{[]float64{7, 3, 7}, []int{7, 3, 7}, true},
		{[]float64{math.NaN()}, nil, false}, {[]float64{1, math.NaN()}, nil, false}, {[]float64{odd, 1}, nil, false},
	} {
		got, ok := edge.All(x.l)
		if !slices.Equal(got, x.want) || ok != x.ok {
			t.Errorf("All(%v) = %v, %v", x.l, got, ok)
		}
	}
}

// P3.4.
func TestHandedInStays(t *testing.T) {
	l := []float64{3, -1, 2.5}
	edge.Least(l)
	first, _ := edge.All(l)
	second, _ := edge.All(l)
	first[0] = 99
	if !slices.Equal(l, []float64{3, -1, 2.5}) || second[0] != 3 {
		t.Error(l, second)
	}
}
