package sat_test

import (
	"math/big"
	"slices"
	"testing"

	"bilge/sat"
)

const most = 1<<63 - 1
const least = -1 << 63

var numbers = []int{
	least, least + 1, -most / 2, -1000, -2, -1, 0, 1, 2, 3, 9, 10, 1000,
	1<<31 - 1, 1 << 31, 1<<31 + 1, 1<<32 - 1, 1 << 32, 1<<32 + 1, 3037000499, 3037000500,
	1<<62 - 1, 1 << 62, 1<<62 + 1, most / 3, most/3 + 1, most - 10, most - 1, most,
}

func exact(n int) *big.Int { return big.NewInt(int64(max(n, 0))) }

func cut(n *big.Int) int {
	if n.Sign() < 0 {
		return 0
	}
	if n.Cmp(big.NewInt(most)) > 0 {
		return most
	}
	return int(n.Int64())
}

// P1.1, against exact numbers.
func TestPairs(t *testing.T) {
	for _, a := range numbers {
		for _, b := range numbers {
			x, y := exact(a), exact(b)
			if got, want := sat.Add(a, b), cut(new(big.Int).Add(x, y)); got != want {
				t.Errorf("Add(%d, %d) = %d, not %d", a, b, got, want)
			}
			if got, want := sat.Mul(a, b), cut(new(big.Int).Mul(x, y)); got != want {
				t.Errorf("Mul(%d, %d) = %d, not %d", a, b, got, want)
			}
			if got, want := sat.Less(a, b), cut(new(big.Int).Sub(x, y)); got != want {
				t.Errorf("Less(%d, %d) = %d, not %d", a, b, got, want)
			}
		}
	}
	if sat.Add(most, 1) != most {
		t.Error("the chapter's example")
	}
}

// P1.1.
func TestSum(t *testing.T) {
	for _, x := range []struct {
		l    []int
		want int
	}{
		{nil, 0}, {[]int{}, 0}, {[]int{7}, 7}, {[]int{-7}, 0}, {[]int{1, 2, 3}, 6},
		{[]int{5, -9, 6}, 11}, {[]int{most, -1}, most}, {[]int{most - 1, 1}, most},
		{[]int{most - 1, 1, 1}, most}, {[]int{1 << 62, 1 << 62, 1 << 62, 1 << 62, 5}, most},
		{[]int{least, least, 4}, 4},
	} {
		if got := sat.Sum(x.l); got != x.want {
			t.Errorf("Sum(%v) = %d, not %d", x.l, got, x.want)
		}
	}
	all := new(big.Int)
	for _, n := range numbers {
		all.Add(all, exact(n))
	}
	if sat.Sum(numbers) != cut(all) {
		t.Error("the sum of all")
	}
}

// P1.1.
func TestFull(t *testing.T) {
	for _, n := range numbers {
		if sat.Full(n) != (n == most) {
			t.Errorf("Full(%d) = %v", n, sat.Full(n))
		}
	}
}

// P1.2.
func TestLaws(t *testing.T) {
	for _, a := range numbers {
		for _, b := range numbers {
			s := sat.Add(a, b)
			if s != sat.Add(b, a) || s < a || s < b {
				t.Errorf("Add(%d, %d) = %d", a, b, s)
			}
			if !sat.Full(s) && sat.Less(s, b) != max(a, 0) {
				t.Errorf("Less(%d, %d) = %d", s, b, sat.Less(s, b))
			}
			for _, c := range numbers {
				l := sat.Add(s, c)
				if r := sat.Add(a, sat.Add(b, c)); l != r {
					t.Errorf("sums of %d, %d, %d: %d, %d", a, b, c, l, r)
				}
				if sat.Sum([]int{c, a, b}) != l || sat.Sum([]int{b, a, c}) != l {
					t.Errorf("the order of %d, %d, %d tells", a, b, c)
				}
			}
		}
	}
}

// P1.3.
func TestHandedInStays(t *testing.T) {
	l := []int{3, -4, most, 9}
	sat.Sum(l)
	if !slices.Equal(l, []int{3, -4, most, 9}) {
		t.Error(l)
	}
}
