package thresh_test

import (
	"math/big"
	"math/rand"
	"testing"

	"bilge/api"
	"bilge/thresh"
)

type limit = api.Threshold

func at(signal, percent, amount int, soft bool, grace int) limit {
	return limit{Signal: signal, Percent: percent, Amount: amount, Soft: soft, Grace: grace}
}

// P6.1.
func TestSignal(t *testing.T) {
	for i, s := range []string{"memory", "disk", "pid"} {
		if got, ok := thresh.Signal(s); got != i || !ok {
			t.Errorf("Signal(%q) = %d, %v", s, got, ok)
		}
	}
	for _, s := range []string{"", "Memory", "memory ", "mem", "disks", "cpu", "pids", "0"} {
		if got, ok := thresh.Signal(s); got != 0 || ok {
			t.Errorf("Signal(%q) = %d, %v", s, got, ok)
		}
	}
}

// P6.1: what is right, with its text.
var right = []struct {
	s string
	t limit
}{
	{"memory<10%:5", at(api.Memory, 10, 0, true, 5)}, {"memory<10%", at(api.Memory, 10, 0, false, 0)},
	{"disk<1%", at(api.Disk, 1, 0, false, 0)}, {"pid<100%", at(api.Pid, 100, 0, false, 0)},
	{"pid<1", at(api.Pid, 0, 1, false, 0)}, {"disk<20:1", at(api.Disk, 0, 20, true, 1)},
	{"disk<2Ki:1000", at(api.Disk, 0, 2048, true, 1000)}, {"memory<9223372036854775807", at(api.Memory, 0, api.Most, false, 0)},
	{"memory<3k:999", at(api.Memory, 0, 3000, true, 999)}, {"memory<1Ti", at(api.Memory, 0, 1<<40, false, 0)},
	{"disk<99%:1000", at(api.Disk, 99, 0, true, 1000)},
}

// P6.1.
func TestReadAndPrint(t *testing.T) {
	for _, x := range right {
		if got, err := thresh.Read(x.s); got != x.t || err != api.OK {
			t.Errorf("Read(%q) = %v, %d", x.s, got, err)
		}
		if got := thresh.Print(x.t); got != x.s {
			t.Errorf("Print(%v) = %q", x.t, got)
		}
		if !thresh.Right(x.t) {
			t.Errorf("%v is right", x.t)
		}
	}
	for s, want := range map[string]limit{
		"memory<010k": at(api.Memory, 0, 10000, false, 0), "disk<2048:7": at(api.Disk, 0, 2048, true, 7),
		"pid<99999999999999999999": at(api.Pid, 0, api.Most, false, 0), "pid<00000000001": at(api.Pid, 0, 1, false, 0),
	} {
		if got, err := thresh.Read(s); got != want || err != api.OK {
			t.Errorf("Read(%q) = %v, %d", s, got, err)
		}
	}
}

// P6.1.
func TestReadOfWrongTexts(t *testing.T) {
	for _, s := range []string{
		"", "memory", "memory<", "<10%", "<", "memory10%", "Memory<10%", "cpu<10%", " memory<10%", "memory <10%", "memory< 10%", "memory<10% ",
		"memory<10 %", "memory<0%", "memory<101%", "memory<1000%", "memory<010%", "memory<00%", "memory<+5%", "memory<-5%", "memory<%", "memory<5k%",
		"memory<10%%", "memory<10%5", "memory<10%k", "memory<0", "memory<0k", "memory<-1", "memory<+1", "memory<x", "memory<1K", "memory<1.5",
		"memory<<10%", "memory<10%<", "memory<10%:", "memory<10%:0", "memory<10%:1001", "memory<10%:05", "memory<10%:1k", "memory<10%:+5",
		"memory<10%:-5", "memory<10%:5:", "memory<10%:5:6", "memory<10%: 5", "memory<10%:5 ", "memory<:5", "memory:5<10%", "memory<10:5%", ":", "%",
		"memory<10%:5%", "memory>10%", "memory<10%:99999999999999999999", "memory<99999999999999999999%", "memory<10%\n", "memory<1:2:3", "pid<5:0",
	} {
		if got, err := thresh.Read(s); got != (limit{}) || err != api.ErrText {
			t.Errorf("Read(%q) = %v, %d", s, got, err)
		}
	}
}

// P6.1.
func TestRight(t *testing.T) {
	for _, x := range []limit{
		{}, at(-1, 10, 0, false, 0), at(3, 10, 0, false, 0), at(0, 0, 0, false, 0), at(0, 101, 0, false, 0), at(0, -1, 0, false, 0), at(0, -1, 5, false, 0),
		at(0, 10, 1, false, 0), at(0, 10, -1, false, 0), at(0, 0, -1, false, 0), at(0, 10, 0, false, 1), at(0, 10, 0, false, -1), at(0, 10, 0, true, 0),
		at(0, 10, 0, true, 1001), at(0, 10, 0, true, -1), at(0, 0, 5, true, 0), at(0, 0, 5, false, 3), at(0, 101, 5, false, 0),
	} {
		if thresh.Right(x) {
			t.Errorf("%v isn't right", x)
		}
	}
	for _, x := range []limit{at(0, 1, 0, true, 1), at(2, 100, 0, true, 1000), at(1, 0, 1, false, 0), at(1, 0, api.Most, true, 500)} {
		if !thresh.Right(x) {
			t.Errorf("%v is right", x)
		}
	}
}

// P6.2.
func TestMetAndEdge(t *testing.T) {
	for _, x := range []struct {
		t              limit
		capacity, edge int
	}{
		{at(0, 10, 0, false, 0), 100, 10}, {at(0, 10, 0, true, 5), 101, 11}, {at(1, 0, 20, false, 0), 5, 20},
		{at(2, 100, 0, false, 0), api.Most, api.Most}, {at(2, 1, 0, false, 0), 1, 1}, {at(2, 50, 0, false, 0), api.Most, 1 << 62},
		{at(0, 0, api.Most, false, 0), 1, api.Most}, {at(0, 0, 1, false, 0), api.Most, 1},
		{at(0, 99, 0, false, 0), api.Most, 9131138316486228049},
	} {
		if got := thresh.Edge(x.t, x.capacity); got != x.edge {
			t.Errorf("Edge(%v, %d) = %d, not %d", x.t, x.capacity, got, x.edge)
		}
		if thresh.Met(x.t, x.capacity, x.edge) || !thresh.Met(x.t, x.capacity, x.edge-1) || !thresh.Met(x.t, x.capacity, 0) || x.edge < api.Most && thresh.Met(x.t, x.capacity, x.edge+1) {
			t.Errorf("Met of %v, %d isn't cut at %d", x.t, x.capacity, x.edge)
		}
	}
}

// P6.3.
func TestLaws(t *testing.T) {
	random := rand.New(rand.NewSource(6))
	number := func() int { return random.Int() >> random.Intn(63) }
	for range 5000 {
		x := limit{Signal: random.Intn(3)}
		if random.Intn(2) == 0 {
			x.Percent = 1 + random.Intn(100)
		} else {
			x.Amount = max(1, number())
		}
		if random.Intn(2) == 0 {
			x.Soft, x.Grace = true, 1+random.Intn(1000)
		}
		if got, err := thresh.Read(thresh.Print(x)); got != x || err != api.OK {
			t.Fatalf("%v, %q: %v, %d", x, thresh.Print(x), got, err)
		}
		capacity, available := max(1, number()), number()
		if thresh.Met(x, capacity, available) != (available < thresh.Edge(x, capacity)) {
			t.Fatal(x, capacity, available)
		}
		want := available < x.Amount
		if x.Percent > 0 {
			part := new(big.Int).Mul(big.NewInt(int64(available)), big.NewInt(100))
			want = part.Cmp(new(big.Int).Mul(big.NewInt(int64(capacity)), big.NewInt(int64(x.Percent)))) < 0
		}
		if thresh.Met(x, capacity, available) != want {
			t.Fatal(x, capacity, available, want)
		}
	}
}
