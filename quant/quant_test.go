package quant_test

import (
	"math/rand"
	"slices"
	"strings"
	"testing"

	"bilge/api"
	"bilge/quant"
)

// P5.1.
func TestRead(t *testing.T) {
	for _, x := range []struct {
		s    string
		want int
	}{
		{"0", 0}, {"7", 7}, {"007", 7}, {"1025", 1025}, {"2Ki", 2048}, {"3k", 3000}, {"0Ti", 0}, {"000k", 0},
		{"1M", 1e6}, {"1G", 1e9}, {"1T", 1e12}, {"1Ki", 1 << 10}, {"1Mi", 1 << 20}, {"1Gi", 1 << 30}, {"1Ti", 1 << 40},
		{"12T", 12e12}, {"010Mi", 10 << 20}, {"9223372036854775807", api.Most}, {"9223372036854775808", api.Most},
		{"9223372036854775806", api.Most - 1}, {"99999999999999999999999", api.Most}, {"8388607Ti", 8388607 << 40},
		{"8388608Ti", api.Most}, {"9223372T", 9223372e12}, {"9223373T", api.Most}, {"18446744073709551616", api.Most},
		{"18446744073709551617k", api.Most}, {"18446744073709552k", api.Most}, {strings.Repeat("0", 1000) + "5k", 5000},
		{strings.Repeat("9", 1000), api.Most},
	} {
		if got, err := quant.Read(x.s); got != x.want || err != api.OK {
			t.Errorf("Read(%q) = %d, %d", x.s, got, err)
		}
	}
	for _, s := range []string{
		"", " ", "k", "Ki", "-1", "+1", "1 ", " 1", "1 k", "1K", "1m", "1ki", "1kI", "1Kii", "1g", "1t", "1P", "1Pi", "1.5", "1e3", "1k1",
		"1kk", "0x10", "1i", "1TiB", "１", "1_0", "-0",
	} {
		if got, err := quant.Read(s); got != 0 || err != api.ErrText {
			t.Errorf("Read(%q) = %d, %d", s, got, err)
		}
	}
}

// P5.1.
func TestUnits(t *testing.T) {
	want := []string{"Ti", "T", "Gi", "G", "Mi", "M", "Ki", "k"}
	if got := quant.Units(); !slices.Equal(got, want) {
		t.Error(got)
	}
	numbers := []int{1 << 40, 1e12, 1 << 30, 1e9, 1 << 20, 1e6, 1 << 10, 1000}
	for i, s := range want {
		if quant.Unit(s) != numbers[i] {
			t.Errorf("Unit(%q) = %d", s, quant.Unit(s))
		}
	}
	if quant.Unit("") != 1 {
		t.Error("nothing stands for 1")
	}
	for _, s := range []string{"K", "i", "ki", " ", "k ", "1", "TI", "Tik", "b"} {
		if quant.Unit(s) != 0 {
			t.Errorf("Unit(%q) = %d", s, quant.Unit(s))
		}
	}
}

// P5.2.
func TestPrint(t *testing.T) {
	for _, x := range []struct {
		n    int
		want string
	}{
		{0, "0"}, {-1, "0"}, {-api.Most - 1, "0"}, {-2048, "0"}, {1, "1"}, {999, "999"}, {1000, "1k"}, {1024, "1Ki"}, {1025, "1025"},
		{2048, "2Ki"}, {3000, "3k"}, {1024000, "1000Ki"}, {1e6, "1M"}, {1 << 20, "1Mi"}, {1e9, "1G"}, {1 << 30, "1Gi"}, {1e12, "1T"},
		{1 << 40, "1Ti"}, {1e12 << 10, "1024T"}, {1e12 + 1, "1000000000001"}, {1e12 + 1000, "1000000001k"}, {5 << 41, "10Ti"},
		{1e6 << 10, "1024M"}, {1e9 << 10, "1024G"}, {1e9 << 20, "1048576G"},
		{1e6 << 20, "1000000Mi"}, {1e3 << 10, "1000Ki"}, {1e12 << 12, "4096T"}, {api.Most, "9223372036854775807"},
	} {
		if got := quant.Print(x.n); got != x.want {
			t.Errorf("Print(%d) = %q, not %q", x.n, got, x.want)
		}
	}
}

// P5.3.
func TestReadAgain(t *testing.T) {
	random := rand.New(rand.NewSource(5))
	for range 5000 {
		n := random.Int() >> random.Intn(63)
		if unit := quant.Unit(append(quant.Units(), "")[random.Intn(9)]); n < api.Most/unit {
			n *= unit
		}
		s := quant.Print(n)
		if got, err := quant.Read(s); got != n || err != api.OK {
			t.Errorf("%d, %q: %d, %d", n, s, got, err)
		}
		if got, _ := quant.Read("00" + s); got != n {
			t.Errorf("zeros ahead of %q matter", s)
		}
		for i, unit := range quant.Units() {
			if n > 0 && n%quant.Unit(unit) == 0 {
				if !strings.HasSuffix(s, unit) {
					t.Errorf("%d is printed %q, unit %d", n, s, i)
				}
				break
			}
		}
	}
}

// P5.4.
func TestNewMemory(t *testing.T) {
	quant.Units()[0] = "x"
	if quant.Units()[0] != "Ti" {
		t.Error(quant.Units())
	}
}
