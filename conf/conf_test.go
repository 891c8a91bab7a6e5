package conf_test

import (
	"fmt"
	"math/rand"
	"slices"
	"strings"
	"testing"

	"bilge/api"
	"bilge/conf"
)

const text = `capacity 100 200 300
allocatable 10 100 300
threshold memory<10%
threshold disk<2Ki:7
period 2
retries 1
maxage 3
dead 0
`

func config() api.Config {
	return api.Config{
		Capacity: [3]int{100, 200, 300}, Allocatable: [3]int{10, 100, 300},
		Thresholds: []api.Threshold{{Signal: api.Memory, Percent: 10}, {Signal: api.Disk, Amount: 2048, Soft: true, Grace: 7}},
		Period:     2, Retries: 1, MaxAge: 3, Dead: 0,
	}
}

// with is the config, changed.
func with(change func(c *api.Config)) api.Config {
	c := config()
	change(&c)
	return c
}

func many(n int) []api.Threshold {
	return slices.Repeat([]api.Threshold{{Signal: api.Pid, Percent: 1}}, n)
}

// P7.1.
func TestRight(t *testing.T) {
	for i, c := range []api.Config{
		config(),
		with(func(c *api.Config) { c.Thresholds = nil }),
		with(func(c *api.Config) { c.Thresholds = many(12) }),
		with(func(c *api.Config) { c.Capacity = [3]int{100, 1, 300} }),
		with(func(c *api.Config) { c.Allocatable = [3]int{api.Most, 0, 0} }),
		with(func(c *api.Config) { c.Allocatable = [3]int{} }),
		with(func(c *api.Config) { c.Capacity = [3]int{api.Most, api.Most, api.Most}; c.Allocatable = c.Capacity }),
		with(func(c *api.Config) { c.Period = 1 }), with(func(c *api.Config) { c.Period = 1000 }),
		with(func(c *api.Config) { c.MaxAge = 1 }), with(func(c *api.Config) { c.MaxAge = 1000 }),
		with(func(c *api.Config) { c.Retries = 0 }), with(func(c *api.Config) { c.Retries = 20 }),
		with(func(c *api.Config) { c.Dead = 100 }),
	} {
		if !conf.Right(c) {
			t.Error(i, "is right")
		}
		s, err := conf.Print(c)
		if err != api.OK {
			t.Error(i, err)
		}
		if got, line, err := conf.Read([]byte(s)); !conf.Same(got, c) || line != 0 || err != api.OK {
			t.Errorf("%d: %q is read as %v, %d, %d", i, s, got, line, err)
		}
	}
	for i, c := range []api.Config{
		{},
		with(func(c *api.Config) { c.Capacity[0] = 0 }), with(func(c *api.Config) { c.Capacity[1] = 0 }),
		with(func(c *api.Config) { c.Capacity[1] = -1 }), with(func(c *api.Config) { c.Capacity[2] = 0 }),
		with(func(c *api.Config) { c.Allocatable[0] = -1 }), with(func(c *api.Config) { c.Allocatable[1] = -1 }),
		with(func(c *api.Config) { c.Allocatable[2] = -1 }), with(func(c *api.Config) { c.Allocatable[1] = 101 }),
		with(func(c *api.Config) { c.Allocatable[2] = 301 }),
		with(func(c *api.Config) { c.Thresholds = many(13) }),
		with(func(c *api.Config) { c.Thresholds[1].Grace = 0 }), with(func(c *api.Config) { c.Thresholds[0].Percent = 0 }),
		with(func(c *api.Config) { c.Period = 0 }), with(func(c *api.Config) { c.Period = 1001 }),
		with(func(c *api.Config) { c.MaxAge = 0 }), with(func(c *api.Config) { c.MaxAge = 1001 }),
		with(func(c *api.Config) { c.Retries = -1 }), with(func(c *api.Config) { c.Retries = 21 }),
		with(func(c *api.Config) { c.Dead = -1 }), with(func(c *api.Config) { c.Dead = 101 }),
	} {
		if conf.Right(c) {
			t.Error(i, "isn't right")
		}
		if s, err := conf.Print(c); s != "" || err != api.ErrArg {
			t.Errorf("%d is printed: %q, %d", i, s, err)
		}
	}
}

// P7.1, P7.2.
func TestReadAndPrint(t *testing.T) {
	c, line, err := conf.Read([]byte(text))
	if !conf.Same(c, config()) || line != 0 || err != api.OK {
		t.Error(c, line, err)
	}
	if s, err := conf.Print(config()); s != text || err != api.OK {
		t.Errorf("%q, %d", s, err)
	}
	s, _ := conf.Print(with(func(c *api.Config) {
		c.Capacity, c.Allocatable, c.Thresholds = [3]int{3000, 2048, 1 << 40}, [3]int{1000, 1024, 0}, nil
		c.Period, c.MaxAge, c.Retries, c.Dead = 1000, 1000, 20, 100
	}))
	if want := "capacity 3k 2Ki 1Ti\nallocatable 1k 1Ki 0\nperiod 1k\nretries 20\nmaxage 1k\ndead 100\n"; s != want {
		t.Errorf("%q", s)
	}
	mixed := "\n# a remark\n dead 0 # none\nthreshold memory<10%\r\n\nmaxage 03\nretries 1\nthreshold disk<2048:7\nperiod 2\nallocatable 10 100 300\ncapacity 100 200 300"
	if c, line, err := conf.Read([]byte(mixed)); !conf.Same(c, config()) || line != 0 || err != api.OK {
		t.Error(c, line, err)
	}
}

// P7.1.
func TestReadOfWrongTexts(t *testing.T) {
	without := func(word string) string {
		var l []string
		for _, line := range strings.SplitAfter(text, "\n") {
			if !strings.HasPrefix(line, word) {
				l = append(l, line)
			}
		}
		return strings.Join(l, "")
	}
	for _, x := range []struct {
		text string
		line int
		err  api.Errno
	}{
		{"", 0, api.ErrNone}, {"period 1", 0, api.ErrNone}, {"\x01", 0, api.ErrText}, {text + "# é", 0, api.ErrText},
		{text + strings.Repeat(" ", 65536), 0, api.ErrText}, {"\x01\nperiod x", 0, api.ErrText},
		{without("capacity"), 0, api.ErrNone}, {without("allocatable"), 0, api.ErrNone}, {without("period"), 0, api.ErrNone},
		{without("retries"), 0, api.ErrNone}, {without("maxage"), 0, api.ErrNone}, {without("dead"), 0, api.ErrNone},
		{text + "other 1", 9, api.ErrText}, {text + "\n\n Period 1", 11, api.ErrText}, {text + "thresholds pid<5", 9, api.ErrText},
		{text + "period 2", 9, api.ErrTwice}, {text + "capacity 100 200 300", 9, api.ErrTwice}, {text + "dead x", 9, api.ErrText},
		{text + "dead 1 1", 9, api.ErrText}, {text + "dead", 9, api.ErrText}, {text + "dead 1\ndead x", 9, api.ErrTwice},
		{text + "dead x\ndead 1", 9, api.ErrText}, {text + "allocatable 1 1 1", 9, api.ErrTwice}, {text + "retries 1", 9, api.ErrTwice},
		{text + "maxage 3", 9, api.ErrTwice}, {text + "dead 101", 9, api.ErrTwice},
		{"capacity 1 2", 1, api.ErrText}, {"capacity 1 2 3 4", 1, api.ErrText}, {"capacity 1 2 -3", 1, api.ErrText}, {"capacity", 1, api.ErrText},
		{"allocatable 1 2 x", 1, api.ErrText}, {"allocatable 1 2", 1, api.ErrText}, {"period 1 2", 1, api.ErrText}, {"period", 1, api.ErrText},
		{"retries -1", 1, api.ErrText}, {"maxage 1.5", 1, api.ErrText}, {"threshold", 1, api.ErrText}, {"threshold memory<0%", 1, api.ErrText},
		{"threshold memory<1% disk<1%", 1, api.ErrText}, {"dead 1\n\nthreshold x\nperiod x", 3, api.ErrText}, {"1", 1, api.ErrText},
		{strings.Replace(text, "period 2", "period 0", 1), 0, api.ErrArg}, {strings.Replace(text, "period 2", "period 1001", 1), 0, api.ErrArg},
		{strings.Replace(text, "retries 1", "retries 21", 1), 0, api.ErrArg}, {strings.Replace(text, "maxage 3", "maxage 0", 1), 0, api.ErrArg},
		{strings.Replace(text, "dead 0", "dead 101", 1), 0, api.ErrArg}, {strings.Replace(text, "100 200", "0 200", 1), 0, api.ErrArg},
		{strings.Replace(text, "10 100", "10 101", 1), 0, api.ErrArg}, {text + strings.Repeat("threshold pid<1\n", 11), 0, api.ErrArg},
		{strings.Replace(without("dead"), "period 2", "period 0", 1), 0, api.ErrNone},
		{strings.Replace(text, "period 2", "period 99999999999999999999", 1), 0, api.ErrArg},
	} {
		c, line, err := conf.Read([]byte(x.text))
		if !conf.Same(c, api.Config{}) || line != x.line || err != x.err {
			t.Errorf("Read(%q) = %v, %d, %d, not %d, %d", x.text, c, line, err, x.line, x.err)
		}
	}
	if _, _, err := conf.Read([]byte(text + strings.Repeat("threshold pid<1\n", 10))); err != api.OK {
		t.Error("twelve thresholds", err)
	}
}

// P7.1.
func TestSame(t *testing.T) {
	if !conf.Same(config(), config()) || !conf.Same(api.Config{}, api.Config{Thresholds: []api.Threshold{}}) {
		t.Error("these are alike")
	}
	for i, change := range []func(c *api.Config){
		func(c *api.Config) { c.Capacity[2]++ }, func(c *api.Config) { c.Allocatable[0]++ }, func(c *api.Config) { c.Period++ },
		func(c *api.Config) { c.Retries++ }, func(c *api.Config) { c.MaxAge++ }, func(c *api.Config) { c.Dead++ },
		func(c *api.Config) { c.Thresholds[1].Grace++ }, func(c *api.Config) { c.Thresholds = c.Thresholds[:1] },
		func(c *api.Config) { slices.Reverse(c.Thresholds) }, func(c *api.Config) { c.Thresholds = nil },
	} {
		if conf.Same(config(), with(change)) || conf.Same(with(change), config()) {
			t.Error(i, "these aren't alike")
		}
	}
}

// P7.3.
func TestReadAgain(t *testing.T) {
	random := rand.New(rand.NewSource(7))
	for range 2000 {
		number := func() int { return 1 + random.Int()>>random.Intn(63)&(api.Most-1) }
		c := api.Config{Capacity: [3]int{number(), number(), number()}, Period: 1 + random.Intn(1000), MaxAge: 1 + random.Intn(1000), Retries: random.Intn(21), Dead: random.Intn(101)}
		c.Allocatable = [3]int{number() - 1, number() % (c.Capacity[0]), number() % (c.Capacity[2])}
		for range random.Intn(13) {
			l := api.Threshold{Signal: random.Intn(3), Percent: 1 + random.Intn(100)}
			if random.Intn(2) == 0 {
				l.Percent, l.Amount = 0, number()
			}
			if random.Intn(2) == 0 {
				l.Soft, l.Grace = true, 1+random.Intn(1000)
			}
			c.Thresholds = append(c.Thresholds, l)
		}
		s, err := conf.Print(c)
		got, line, again := conf.Read([]byte(s))
		if err != api.OK || line != 0 || again != api.OK || fmt.Sprint(got) != fmt.Sprint(c) {
			t.Fatalf("%v: %q, %v", c, s, got)
		}
	}
}

// P7.4.
func TestHandedInStays(t *testing.T) {
	b := []byte(text)
	first, _, _ := conf.Read(b)
	second, _, _ := conf.Read(b)
	if string(b) != text {
		t.Error("the text was changed")
	}
	clear(b)
	first.Thresholds[0].Percent = 99
	conf.Print(second)
	if !conf.Same(second, config()) {
		t.Error(second)
	}
}
