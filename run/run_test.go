package run_test

import (
	"fmt"
	"math"
	"math/rand"
	"slices"
	"strings"
	"testing"

	"bilge/api"
	"bilge/log"
	"bilge/rank"
	"bilge/run"
	"bilge/script"
)

const config = `capacity 100 100 100
allocatable 10 10 10
threshold memory<10%
threshold disk<20
period 2
retries 1
maxage 2
dead 0
`

func play(t *testing.T, text string) []string {
	t.Helper()
	l, line, err := run.Tell([]byte(config), []byte(text))
	if line != 0 || err != api.OK {
		t.Fatalf("%q: %d, %d", text, line, err)
	}
	return l
}

// The ten examples of the whole.
func TestExamples(t *testing.T) {
	first := "admit a web 7 0 plain 4 4 4\ntick\ntick\ntick\n"
	second := first + "sample 3 5 50 50\ntick\n"
	third := second + "admit b web 7 0 plain 0 0 0\n"
	up := "0 admit a; 1 begin a; 2 pull web 7; 3 up a"
	full := "admit a web 7 0 plain 4 4 4\nadmit b db 9 1 critical 7 1 1\n"
	for i, x := range []struct{ text, want string }{
		{first, up},
		{second, up + "; 4 on memory; 4 evict a memory; 4 gone a"},
		{third, up + "; 4 on memory; 4 evict a memory; 4 gone a; 4 reject b pressure memory"},
		{third + "sample 4 50 50 50\ntick\nsample 5 inf inf inf\ntick\n", up + "; 4 on memory; 4 evict a memory; 4 gone a; 4 reject b pressure memory; 5 dead a; 6 off memory"},
		{full, "0 admit a; 0 preempt a; 0 admit b"},
		{full + "tick\ntick\nfeed bad bad\ntick\ntick\ntick\n", "0 admit a; 0 preempt a; 0 admit b; 1 begin b; 2 pull db 9; 5 fail b"},
		{first + "delete a\ntick\nsample 4 50 15 50\ntick\n", up + "; 3 delete a; 4 gone a; 5 on disk; 5 dead a; 5 image web 7"},
		{"crash 3\nadmit a web 7 0 plain 4 4 4\n", "0 recover 0"},
		{"crash 3 1\nadmit a web 7 0 plain 4 4 4\n", "0 recover 0"},
	} {
		if got := strings.Join(play(t, x.text), "; "); got != x.want {
			t.Errorf("%d: %q, not %q", i+1, got, x.want)
		}
	}
	for keep, there := range []int{0, 1} {
		acts := []api.Act{{Do: api.ActCrash, Steps: 3, Keep: []int{keep}}, {Do: api.ActAdmit, Pod: pod("a", 0, 4, 4, 4)}}
		l, err := run.Play([]byte(config), acts)
		if err != api.OK || l[1].Err != api.ErrState || len(l[1].State.Pods) != there {
			t.Error(keep, l, err)
		}
	}
	if n, err := run.New([]byte("period 1")); n != nil || err != api.ErrNone {
		t.Error(n, err)
	}
}

// alike tells whether the two are told alike: nil and empty lists are one.
func alike(a, b any) bool {
	return fmt.Sprint(a) == fmt.Sprint(b)
}

func pod(id string, prio int, req ...int) api.Pod {
	p := api.Pod{Id: id, Prio: prio, Image: "web", Size: 7}
	copy(p.Req[:], req)
	return p
}

func admit(p api.Pod) api.Act { return api.Act{Do: api.ActAdmit, Pod: p} }

func start(t *testing.T, text string) *run.Node {
	t.Helper()
	n, err := run.New([]byte(text))
	if err != api.OK {
		t.Fatal(err)
	}
	return n
}

// same tells whether the step is as told.
func (w want) same(s api.Step) bool {
	return s.Err == w.err && slices.Equal(s.Events, w.events) && table(s.State) == w.table
}

type want struct {
	err    api.Errno
	events []api.Event
	table  string
}

// table tells the round and the table: Ids with phases.
func table(s api.State) string {
	all := fmt.Sprint(s.Round)
	for _, e := range s.Pods {
		all += fmt.Sprint(" ", e.Pod.Id, e.Phase)
	}
	return all
}

func ev(kind int, id string) api.Event { return api.Event{Kind: kind, Id: id} }

// P28.1: each act.
func TestDo(t *testing.T) {
	n := start(t, config)
	if table(n.State()) != "0" || n.Calm() != [3]int{} || len(n.Containers())+len(n.Images())+len(n.Waiting()) != 0 {
		t.Error(n)
	}
	junk := api.Act{Id: "x", Pod: pod("x", 0), Raw: api.Raw{Time: 9, Avail: [3]float64{math.NaN(), 0, 0}}, Well: []bool{false}, Steps: 2, Keep: []int{1}}
	of := func(do int, a api.Act) api.Act {
		b := junk
		b.Do = do
		switch do {
		case api.ActAdmit:
			b.Pod = a.Pod
		case api.ActDelete:
			b.Id = a.Id
		case api.ActSample:
			b.Raw = a.Raw
		case api.ActFeed:
			b.Well = a.Well
		case api.ActCrash:
			b.Steps, b.Keep = a.Steps, a.Keep
		}
		return b
	}
	sample := func(time int, memory float64) api.Act {
		return of(api.ActSample, api.Act{Raw: api.Raw{Time: time, Avail: [3]float64{memory, 50, 50}}})
	}
	for i, x := range []struct {
		a api.Act
		w want
	}{
		{of(api.ActAdmit, admit(pod("a", 0, 4))), want{0, []api.Event{ev(api.EvAdmit, "a")}, "0 a1"}}, {of(api.ActAdmit, admit(pod("a", 0, 4))), want{api.ErrTwice, nil, "0 a1"}},
		{of(api.ActDelete, api.Act{Id: "b"}), want{api.ErrNone, nil, "0 a1"}}, {of(api.ActTick, api.Act{}), want{0, []api.Event{ev(api.EvBegin, "a")}, "1 a2"}},
		{of(api.ActFeed, api.Act{Well: []bool{false, true}}), want{0, nil, "1 a2"}}, {of(api.ActTick, api.Act{}), want{0, nil, "2 a2"}},
		{of(api.ActTick, api.Act{}), want{0, []api.Event{{Kind: api.EvPull, Id: "web", N: 7}}, "3 a2"}}, {of(api.ActFeed, api.Act{Well: make([]bool, 4097)}), want{api.ErrFull, nil, "3 a2"}},
		{sample(3, math.NaN()), want{api.ErrArg, nil, "3 a2"}}, {sample(4, 5), want{api.ErrStale, nil, "3 a2"}}, {sample(3, 5), want{0, nil, "3 a2"}}, {sample(3, 5), want{api.ErrStale, nil, "3 a2"}},
		{of(api.ActTick, api.Act{}), want{0, []api.Event{{Kind: api.EvOn}, {Kind: api.EvEvict, Id: "a"}, ev(api.EvGone, "a")}, "4"}},
		{of(0, api.Act{}), want{api.ErrArg, nil, "4"}}, {of(7, api.Act{}), want{api.ErrArg, nil, "4"}}, {of(-1, api.Act{}), want{api.ErrArg, nil, "4"}},
		{sample(4, 50), want{0, nil, "4"}}, {of(api.ActTick, api.Act{}), want{0, []api.Event{ev(api.EvDead, "a")}, "5"}},
		{of(api.ActAdmit, admit(pod("b", 0))), want{0, []api.Event{{Kind: api.EvReject, Id: "b", N: api.Pressure}}, "5"}},
		{of(api.ActAdmit, admit(api.Pod{})), want{api.ErrArg, nil, "5"}}, {of(api.ActAdmit, admit(pod("b", 0, 5))), want{0, []api.Event{ev(api.EvAdmit, "b")}, "5 b1"}},
		{of(api.ActDelete, api.Act{Id: "b"}), want{0, []api.Event{ev(api.EvDelete, "b")}, "5 b3"}}, {of(api.ActDelete, api.Act{Id: "b"}), want{api.ErrState, nil, "5 b3"}},
	} {
		got := n.Do(x.a)
		if !x.w.same(got) || !alike(got.State, n.State()) {
			t.Error(i, got)
		}
		if i == 4 && !slices.Equal(n.Waiting(), []bool{false, true}) {
			t.Error(n.Waiting())
		}
		if i == 6 && (len(n.Images()) != 1 || n.Images()[0] != api.Image{Name: "web", Size: 7, Last: 3}) {
			t.Error(n.Images())
		}
		if i == 6 && (len(n.Containers()) != 1 || n.Containers()[0] != api.Container{Id: "a", Box: api.Box{State: api.Pulled}, Last: 3}) {
			t.Error(n.Containers())
		}
		if i == 17 && n.Calm() != [3]int{1, 0, 0} {
			t.Error(n.Calm())
		}
	}
}

// The runtime has the config's retries.
func TestRetries(t *testing.T) {
	for retries := range 4 {
		n := start(t, strings.Replace(config, "retries 1", fmt.Sprint("retries ", retries), 1))
		n.Do(admit(pod("a", 0)))
		n.Do(api.Act{Do: api.ActFeed, Well: make([]bool, 20)})
		n.Do(api.Act{Do: api.ActTick})
		for i := range retries + 2 {
			left := len(n.Do(api.Act{Do: api.ActTick}).State.Pods)
			if (left == 0) != (i == retries+1) {
				t.Error(retries, i, left)
			}
		}
	}
}

// P28.1: a crash that is noted waits, and is forgotten for a later one.
func TestCrashIsNoted(t *testing.T) {
	crash := func(steps int, keep ...int) api.Act { return api.Act{Do: api.ActCrash, Steps: steps, Keep: keep} }
	recover := func(round int) api.Event { return api.Event{Kind: api.EvRecover, N: round} }
	n := start(t, config)
	for i, x := range []struct {
		a api.Act
		w want
	}{
		{crash(0), want{0, nil, "0"}}, {api.Act{Do: 9}, want{api.ErrArg, nil, "0"}}, {crash(4), want{0, nil, "0"}}, {admit(pod("a", 0, 1)), want{api.ErrState, []api.Event{recover(0)}, "0 a1"}},
		{admit(pod("b", 0, 1)), want{0, []api.Event{ev(api.EvAdmit, "b")}, "0 a1 b1"}}, {crash(0), want{0, nil, "0 a1 b1"}}, {api.Act{Do: api.ActDelete, Id: "x"}, want{api.ErrNone, []api.Event{recover(0)}, "0 a1 b1"}},
		{crash(3, 0), want{0, nil, "0 a1 b1"}}, {api.Act{Do: api.ActTick}, want{api.ErrState, []api.Event{recover(0)}, "0 a1 b1"}}, {api.Act{Do: api.ActTick}, want{0, nil, "1 a1 b1"}},
		{crash(3, 1), want{0, nil, "1 a1 b1"}}, {api.Act{Do: api.ActTick}, want{api.ErrState, []api.Event{recover(2)}, "2 a2 b2"}}, {crash(-5), want{0, nil, "2 a2 b2"}},
		{api.Act{Do: api.ActDelete, Id: "a"}, want{api.ErrState, []api.Event{recover(2)}, "2 a2 b2"}}, {crash(99), want{0, nil, "2 a2 b2"}},
		{api.Act{Do: api.ActDelete, Id: "a"}, want{api.ErrState, []api.Event{recover(2)}, "2 a3 b2"}}, {crash(1), want{0, nil, "2 a3 b2"}},
		{api.Act{Do: api.ActFeed, Well: []bool{true}}, want{0, []api.Event{recover(2)}, "2 a3 b2"}}, {crash(1), want{0, nil, "2 a3 b2"}},
		{api.Act{Do: api.ActFeed, Well: make([]bool, 5000)}, want{api.ErrFull, []api.Event{recover(2)}, "2 a3 b2"}}, {crash(1), want{0, nil, "2 a3 b2"}},
		{api.Act{Do: api.ActSample, Raw: api.Raw{Time: 2}}, want{0, []api.Event{recover(2)}, "2 a3 b2"}}, {api.Act{Do: api.ActSample, Raw: api.Raw{Time: 2}}, want{0, nil, "2 a3 b2"}},
		{crash(1), want{0, nil, "2 a3 b2"}}, {api.Act{Do: api.ActSample, Raw: api.Raw{Time: 2}}, want{api.ErrStale, []api.Event{recover(2)}, "2 a3 b2"}}, {crash(1), want{0, nil, "2 a3 b2"}},
		{admit(pod("c", 0, 10)), want{0, []api.Event{{Kind: api.EvReject, Id: "c", N: api.Room}, recover(2)}, "2 a3 b2"}}, {api.Act{Do: api.ActDelete, Id: "b"}, want{0, []api.Event{ev(api.EvDelete, "b")}, "2 a3 b3"}},
	} {
		if got := n.Do(x.a); !x.w.same(got) {
			t.Error(i, got)
		}
	}
}

// Behind a crash containers that are no pod's are stopped (P7).
func TestLostBehindACrash(t *testing.T) {
	got := strings.Join(play(t, "admit a web 7 0 plain 9 0 0\ntick\ntick\ncrash 2\ntick\ntick\n"), "; ")
	if got != "0 admit a; 1 begin a; 2 pull web 7; 2 recover 2" {
		t.Error(got)
	}
	got = strings.Join(play(t, "admit a web 7 0 plain 9 0 0\ntick\ntick\ntick\ncrash 4\nadmit b web 7 1 critical 9 0 0\ntick\ntick\n"), "; ")
	if want := "0 admit a; 1 begin a; 2 pull web 7; 3 up a; 3 recover 3; 4 begin b; 4 stop a; 5 dead a"; got != want {
		t.Error(got)
	}
}

// P28.1, P28.2, P28.3: texts that are no configs, and no scripts.
func TestWrongTexts(t *testing.T) {
	for text, want := range map[string]api.Errno{
		"": api.ErrNone, "period 1": api.ErrNone, "\x00": api.ErrText, config + "x": api.ErrText, config + "dead 1": api.ErrTwice, strings.Replace(config, "dead 0", "dead 101", 1): api.ErrArg,
	} {
		if n, err := run.New([]byte(text)); n != nil || err != want {
			t.Errorf("%q: %v, %d", text, n, err)
		}
		if l, err := run.Play([]byte(text), []api.Act{{Do: api.ActTick}}); len(l) != 0 || err != want {
			t.Errorf("%q: %v, %d", text, l, err)
		}
		for _, acts := range []string{"tick", "x", "\x01"} {
			if l, line, err := run.Tell([]byte(text), []byte(acts)); len(l) != 0 || line != 0 || err != want {
				t.Errorf("%q: %v, %d, %d", text, l, line, err)
			}
		}
	}
	for acts, want := range map[string]int{"x": 1, "tick\n\nadmit a\ntick": 3, "tick\x01": 0, "tick\n" + strings.Repeat(" ", 65536): 0, "admit a web 7 0 plain 1 1 1\ndelete a\nfeed x": 3} {
		if l, line, err := run.Tell([]byte(config), []byte(acts)); len(l) != 0 || line != want || err != api.ErrText {
			t.Errorf("%q: %v, %d, %d", acts, l, line, err)
		}
	}
	for _, acts := range []string{"", "# nothing", "feed ok", "delete x\nsample 9 1 1 1\nadmit A web 7 0 plain 1 1 1\ncrash 0"} {
		if l := play(t, acts); len(l) != 0 {
			t.Errorf("%q: %v", acts, l)
		}
	}
}

// P28.2: Play is Do, one behind the other.
func TestPlay(t *testing.T) {
	random := rand.New(rand.NewSource(282))
	for range 30 {
		var l []api.Act
		for range 60 {
			l = append(l, someAct(random, len(l)/2))
		}
		steps, err := run.Play([]byte(config), l)
		if err != api.OK || len(steps) != len(l) {
			t.Fatal(err, len(steps))
		}
		n := start(t, config)
		for i, a := range l {
			if got := n.Do(a); !alike(got, steps[i]) {
				t.Fatal(i, got, steps[i])
			}
		}
		lines, err := log.Lines(steps)
		if err != api.OK {
			t.Fatal("an event has no line", err)
		}
		text, err := script.Print(l)
		if err != api.OK {
			continue
		}
		if told := play(t, text); !slices.Equal(told, lines) {
			t.Fatal(told, lines)
		}
	}
	if l, err := run.Play([]byte(config), nil); len(l) != 0 || err != api.OK {
		t.Error(l, err)
	}
}

// someAct is an act at will, in about that round; most can be done.
func someAct(random *rand.Rand, round int) api.Act {
	id := fmt.Sprint("p", random.Intn(6))
	a := api.Act{Do: 1 + random.Intn(6)}
	switch random.Intn(6) {
	case 0, 1:
		a.Do = api.ActTick
	case 2:
		a.Do = api.ActAdmit
	}
	switch a.Do {
	case api.ActAdmit:
		a.Pod = pod(id, random.Intn(5), random.Intn(6), random.Intn(6), random.Intn(11))
		a.Pod.Critical, a.Pod.Image, a.Pod.Size = random.Intn(4) == 0, fmt.Sprint("i", random.Intn(4)), random.Intn(9)
		if random.Intn(4) == 0 {
			a.Pod.Req = [3]int{}
		}
	case api.ActDelete:
		a.Id = id
	case api.ActSample:
		a.Raw = api.Raw{Time: round - random.Intn(3), Avail: [3]float64{float64(random.Intn(20)), float64(random.Intn(40)), math.Inf(1 - 2*random.Intn(2))}}
		a.Raw.Use = []api.Usage{{Id: id, Amount: [3]float64{float64(random.Intn(9)), 1, 2}}}
	case api.ActFeed:
		for range random.Intn(4) {
			a.Well = append(a.Well, random.Intn(3) > 0)
		}
	case api.ActCrash:
		a.Steps = random.Intn(7) - 1
		for range random.Intn(3) {
			a.Keep = append(a.Keep, random.Intn(40)-1)
		}
	}
	return a
}

// checker goes along with a script, and holds each step against P28.4.
type checker struct {
	t     *testing.T
	n     *run.Node
	done  []api.Act
	noted *api.Act
	last  api.State
	calm  [3]int
	fresh *api.Raw
	taken int
}

// without is the step of the act on a node on which all else was done, and no crash was noted since.
func (c *checker) without(a api.Act) api.Step {
	n := start(c.t, wide)
	for _, x := range c.done {
		n.Do(x)
	}
	return n.Do(a)
}

const wide = `capacity 100 100 100
allocatable 10 10 10
threshold memory<10%
threshold disk<20
threshold pid<7
period 3
retries 1
maxage 3
dead 1
`

// do does the act, and checks what came of it.
func (c *checker) do(a api.Act) api.Step {
	t := c.t
	t.Helper()
	if a.Do == api.ActSample {
		a.Raw.Time += c.last.Round - 1
	}
	step := c.n.Do(a)
	s := step.State
	if a.Do == api.ActCrash {
		c.noted = &a
		if step.Err != api.OK || len(step.Events) > 0 || !alike(s, c.last) {
			t.Fatal(step)
		}
		return step
	}
	if c.noted != nil {
		c.crashed(a, step)
	} else {
		c.through(a, step)
		c.done = append(c.done, a)
	}
	c.sums(s)
	if _, err := log.Lines([]api.Step{step}); err != api.OK {
		t.Fatal("no line", step)
	}
	c.last = s
	return step
}

// sums holds the table against what may be asked for.
func (c *checker) sums(s api.State) {
	var sums [3]int
	for _, e := range s.Pods {
		for i, asked := range e.Pod.Req {
			sums[i] += asked
		}
	}
	if sums[0] > 10 || sums[1] > 10 || sums[2] > 10 {
		c.t.Fatal("the table doesn't fit", s)
	}
}

// crashed checks an act with which a crash came.
func (c *checker) crashed(a api.Act, step api.Step) {
	t, steps := c.t, c.noted.Steps
	crash := *c.noted
	c.noted = nil
	s := step.State
	whole := c.without(a)
	isOld, isNew := alike(s, c.last), alike(s, whole.State)
	if !isOld && !isNew || steps < 3 && !isOld || steps >= 4 && !isNew {
		t.Fatal(crash, a, step, c.last, whole.State)
	}
	last := step.Events[len(step.Events)-1]
	if last != (api.Event{Kind: api.EvRecover, N: s.Round}) || c.n.Calm() != [3]int{} {
		t.Fatal(step)
	}
	if saved := !alike(c.last, whole.State); saved && (step.Err != api.ErrState || len(step.Events) > 1) {
		t.Fatal(step)
	}
	for signal, on := range c.last.On {
		if on && !s.On[signal] && !isNew {
			t.Fatal("a condition went off", step)
		}
	}
	c.done = append(c.done, crash, a)
	c.fresh, c.taken, c.calm = nil, -1, [3]int{}
}

// through checks an act without a crash.
func (c *checker) through(a api.Act, step api.Step) {
	switch a.Do {
	case api.ActSample:
		r := a.Raw
		fresh := r.Time > c.taken && r.Time <= c.last.Round && r.Time > c.last.Round-3
		if fresh != (step.Err == api.OK) {
			c.t.Fatal(a, step)
		}
		if fresh {
			c.fresh, c.taken = &r, r.Time
		}
	case api.ActTick:
		c.tick(step)
		c.fresh = nil
	default:
		if step.State.On != c.last.On || step.State.Round != c.last.Round {
			c.t.Fatal(step)
		}
	}
}

// tick checks a round: its conditions, and who was evicted.
func (c *checker) tick(step api.Step) {
	t, s := c.t, step.State
	met := [3]bool{}
	if c.fresh != nil {
		met = [3]bool{c.fresh.Avail[0] < 10, c.fresh.Avail[1] < 20, c.fresh.Avail[2] < 7}
	}
	for signal := range 3 {
		on := c.last.On[signal]
		if on && c.fresh != nil && !met[signal] {
			c.calm[signal]++
		} else {
			c.calm[signal] = 0
		}
		on = (on || met[signal]) && c.calm[signal] < 3
		if !on {
			c.calm[signal] = 0
		}
		if s.On[signal] != on {
			t.Fatal(signal, c.last, step)
		}
	}
	if s.Round != c.last.Round+1 || c.n.Calm() != c.calm || step.Err != api.OK {
		t.Fatal(c.last, step, c.calm)
	}
	evicted := 0
	for _, e := range step.Events {
		if e.Kind == api.EvEvict {
			evicted++
			c.evicted(e, met)
		}
	}
	if evicted > 1 {
		t.Fatal("more than one", step)
	}
}

// evicted checks who was.
func (c *checker) evicted(e api.Event, met [3]bool) {
	if !met[e.Signal] || slices.ContainsFunc(c.last.Pods, func(x api.Entry) bool { return x.Phase == api.Terminating }) {
		c.t.Fatal(c.last, e)
	}
	var uses []api.Use
	for _, u := range c.fresh.Use {
		uses = append(uses, api.Use{Id: u.Id, Amount: [3]int{int(u.Amount[0]), int(u.Amount[1]), int(u.Amount[2])}})
	}
	if first, ok := rank.First(e.Signal, c.last.Pods, api.Sample{Use: uses}); !ok || first != e.Id {
		c.t.Fatal(c.last, e, first)
	}
}

// measured is an act that hands in a sample of the round, of plenty or not.
func measured(random *rand.Rand, plenty bool) api.Act {
	a := api.Act{Do: api.ActSample, Raw: api.Raw{Time: 1}}
	for i := range a.Raw.Avail {
		a.Raw.Avail[i] = float64(random.Intn(25))
		if plenty {
			a.Raw.Avail[i] += 20
		}
	}
	return a
}

// P28.4, on scripts at will.
func TestLaws(t *testing.T) {
	random := rand.New(rand.NewSource(284))
	var steps []api.Step
	for range 60 {
		c := &checker{t: t, n: start(t, wide), taken: -1}
		for i := range 200 {
			a := someAct(random, random.Intn(3))
			if a.Do == api.ActTick && random.Intn(8) > 0 {
				steps = append(steps, c.do(measured(random, i/20%4 > 0)))
			}
			steps = append(steps, c.do(a))
		}
	}
	for kind, n := range log.Count(steps) {
		if kind > 0 && n < 10 {
			t.Error("of kind", kind, "there are too few:", n)
		}
	}
}

// P28.4: whatever acts, nothing panics, and events have lines.
func TestWrongActs(t *testing.T) {
	random := rand.New(rand.NewSource(2840))
	for range 200 {
		n := start(t, wide)
		for range 60 {
			a := someAct(random, random.Intn(9)-2)
			switch random.Intn(8) {
			case 0:
				a.Do = random.Intn(20) - 5
			case 1:
				a.Pod.Id, a.Id = "A b", "\x00"
			case 2:
				a.Pod.Req = [3]int{api.Most, -1, api.Most}
			case 3:
				a.Raw.Avail[random.Intn(3)] = []float64{math.NaN(), math.Inf(-1), -5, 1e300}[random.Intn(4)]
			case 4:
				a.Steps, a.Keep = math.MinInt, []int{math.MaxInt, math.MinInt}
			case 5:
				a.Pod.Prio = api.MaxPrio * (random.Intn(5) - 2)
				a.Raw.Time = math.MinInt
			}
			step := n.Do(a)
			if _, err := log.Lines([]api.Step{step}); err != api.OK {
				t.Fatal(a, step)
			}
			if !alike(step.State, n.State()) {
				t.Fatal(step.State, n.State())
			}
		}
	}
}

// P28.5.
func TestHandedInStays(t *testing.T) {
	text := []byte(config)
	n, _ := run.New(text)
	clear(text)
	well, keep := []bool{true, false}, []int{1, 1}
	n.Do(api.Act{Do: api.ActFeed, Well: well})
	well[0] = false
	n.Do(api.Act{Do: api.ActCrash, Steps: 3, Keep: keep})
	keep[0] = 0
	step := n.Do(admit(pod("a", 0, 1)))
	if table(step.State) != "0 a1" || !slices.Equal(n.Waiting(), []bool{true, false}) {
		t.Error(step, n.Waiting())
	}
	step.State.Pods[0].Phase = 9
	n.State().Pods[0].Phase = 8
	n.Waiting()[0] = false
	n.Do(api.Act{Do: api.ActTick})
	n.Containers()[0].Id = "x"
	n.Do(api.Act{Do: api.ActTick})
	n.Images()[0].Name = "y"
	if table(n.State()) != "2 a2" || n.Containers()[0].Id != "a" || n.Images()[0].Name != "web" || !slices.Equal(n.Waiting(), []bool{false}) {
		t.Error(n.State(), n.Containers(), n.Images(), n.Waiting())
	}
	l := []api.Act{admit(pod("a", 0, 1)), {Do: api.ActFeed, Well: []bool{true}}, {Do: api.ActCrash, Keep: []int{1}}}
	want := fmt.Sprint(l)
	first, _ := run.Play([]byte(config), l)
	first[0].State.Pods[0].Phase = 7
	if fmt.Sprint(l) != want || first[1].State.Pods[0].Phase != api.Admitted {
		t.Error(l, first)
	}
}
