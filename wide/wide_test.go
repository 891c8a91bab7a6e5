package wide_test

import (
	"math/big"
	"testing"

	"bilge/wide"
)

const most = 1<<63 - 1
const least = -1 << 63

var numbers = []int{
	least, -3, -1, 0, 1, 2, 3, 9, 10, 99, 100, 101, 1 << 31, 1<<32 - 1, 1 << 32, 1<<32 + 1,
	1 << 62, most / 100, most/100 + 1, most - 1, most,
}

func exact(n int) *big.Int { return big.NewInt(int64(max(n, 0))) }

func product(a, b int) *big.Int { return new(big.Int).Mul(exact(a), exact(b)) }

// P2.1, against exact numbers.
func TestCompareAndRatio(t *testing.T) {
	for _, a := range numbers {
		for _, b := range numbers {
			for _, c := range numbers {
				for _, d := range numbers {
					if got, want := wide.Compare(a, b, c, d), product(a, b).Cmp(product(c, d)); got != want {
						t.Fatalf("Compare(%d, %d, %d, %d) = %d, not %d", a, b, c, d, got, want)
					}
					if got, want := wide.Ratio(a, b, c, d), ratio(a, b, c, d); got != want {
						t.Fatalf("Ratio(%d, %d, %d, %d) = %d, not %d", a, b, c, d, got, want)
					}
				}
			}
		}
	}
}

func ratio(a, b, c, d int) int {
	x, y := exact(b).Sign() == 0, exact(d).Sign() == 0
	if x || y {
		switch {
		case !y:
			return 1
		case !x:
			return -1
		}
		return 0
	}
	return new(big.Rat).SetFrac(exact(a), exact(b)).Cmp(new(big.Rat).SetFrac(exact(c), exact(d)))
}

// P2.1.
func TestRatioByHand(t *testing.T) {
	for _, x := range [][5]int{
		{1, 2, 2, 4, 0}, {1, 2, 1, 3, 1}, {1, 3, 1, 2, -1}, {5, 0, most, 1, 1}, {most, 1, 5, 0, -1},
		{5, 0, 9, 0, 0}, {0, 0, 9, 0, 0}, {0, 0, 0, 1, 1}, {-4, 1, 0, 7, 0}, {5, -1, 9, 0, 0},
	} {
		if got := wide.Ratio(x[0], x[1], x[2], x[3]); got != x[4] {
			t.Errorf("Ratio of %v = %d", x, got)
		}
	}
}

// P2.1.
func TestBelow(t *testing.T) {
	if !wide.Below(9, 100, 10) || wide.Below(10, 100, 10) {
		t.Error("the chapter's examples")
	}
	percents := []int{least, -1, 0, 1, 10, 33, 50, 99, 100, 101, 250, 1 << 40, most}
	for _, part := range numbers {
		for _, whole := range numbers {
			for _, percent := range percents {
				want := product(part, 100).Cmp(product(whole, percent)) < 0
				if wide.Below(part, whole, percent) != want {
					t.Errorf("Below(%d, %d, %d) isn't %v", part, whole, percent, want)
				}
			}
		}
	}
}

// P2.2.
func TestShare(t *testing.T) {
	for _, x := range [][3]int{
		{100, 10, 10}, {101, 10, 11}, {1, 1, 1}, {0, 50, 0}, {100, 0, 0}, {100, -1, 0}, {100, least, 0},
		{100, 100, 100}, {100, 101, 100}, {100, most, 100}, {-5, 50, 0}, {most, 100, most}, {most, most, most},
		{most, 50, 1 << 62}, {3, 33, 1}, {3, 34, 2}, {most, 1, 92233720368547759}, {most, 99, 9131138316486228049},
	} {
		if got := wide.Share(x[0], x[1]); got != x[2] {
			t.Errorf("Share(%d, %d) = %d, not %d", x[0], x[1], got, x[2])
		}
	}
}

// P2.2, P2.3: the share isn't below, and what is less is.
func TestShareParts(t *testing.T) {
	for _, whole := range numbers {
		for percent := range 101 {
			s := wide.Share(whole, percent)
			if wide.Below(s, whole, percent) || s > 0 && !wide.Below(s-1, whole, percent) {
				t.Errorf("Share(%d, %d) = %d", whole, percent, s)
			}
			for _, part := range numbers {
				if wide.Below(part, whole, percent) == (max(part, 0) >= s) {
					t.Errorf("%d of %d, %d percent, is both or none", part, whole, percent)
				}
			}
		}
	}
}

// P2.3: Ratio is an order.
func TestRatioIsAnOrder(t *testing.T) {
	l := []int{-1, 0, 1, 2, 3, 1 << 62, most - 1, most}
	var pairs [][2]int
	for _, a := range l {
		for _, b := range l {
			pairs = append(pairs, [2]int{a, b})
		}
	}
	how := func(x, y [2]int) int { return wide.Ratio(x[0], x[1], y[0], y[1]) }
	for _, x := range pairs {
		for _, y := range pairs {
			if how(x, y) != -how(y, x) {
				t.Fatal(x, y)
			}
			for _, z := range pairs {
				if how(x, y) <= 0 && how(y, z) <= 0 && how(x, z) > 0 {
					t.Fatal(x, y, z)
				}
			}
		}
	}
}
