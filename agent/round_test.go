package agent_test

import (
	"fmt"
	"math"
	"math/rand"
	"slices"
	"testing"

	"bilge/api"
	"bilge/rank"
)

// P25.5: the chapter's example.
func TestLife(t *testing.T) {
	n := start(t, api.State{})
	n.is("admit a", api.OK)(n.a.Admit(pod("a", 0, 4, 4, 4)))
	n.tick("begin a", "pull web 7", "up a", "")
	n.has(n.table(), "a2")
	n.has(n.boxes(), "a:3.0@3")
	n.has(n.images(), "web:7@4")
	n.is("delete a", api.OK)(n.a.Delete("a"))
	n.tick("gone a", "dead a", "")
	n.has(n.table()+n.boxes(), "")
	n.has(n.images(), "web:7@5")
}

// P25.5, step 1: timers and conditions.
func TestSignals(t *testing.T) {
	n := start(t, at(10), "threshold disk<20", "threshold disk<20:2\nthreshold pid<5")
	since := func(want ...int) {
		t.Helper()
		if !slices.Equal(n.a.Since(), want) {
			t.Error(n.a.Since(), "not", want)
		}
	}
	calm := func(want ...int) {
		t.Helper()
		if got := n.a.Calm(); !slices.Equal(got[:], want) {
			t.Error(got, "not", want)
		}
	}
	n.tick("")
	since(-1, -1, -1)
	n.avail(10, 19, 5)
	n.tick("")
	since(-1, 12, -1)
	n.tick("")
	since(-1, 12, -1)
	n.avail(9, 19, 4)
	n.tick("on, on s1, on s2")
	since(14, 12, 14)
	calm(0, 0, 0)
	n.avail(10, 20, 4)
	n.tick("")
	since(-1, -1, 14)
	calm(1, 1, 0)
	if n.a.State().On != [3]bool{true, true, true} {
		t.Error(n.a.State().On)
	}
	n.avail(10, 19, 5)
	n.tick("off")
	since(-1, 16, -1)
	calm(0, 0, 1)
	n.tick("")
	calm(0, 0, 0)
	n.avail(10, 20, 5)
	n.tick("")
	calm(0, 1, 1)
	n.renew()
	since(-1, -1, -1)
	calm(0, 0, 0)
	if n.a.State().On != [3]bool{false, true, true} {
		t.Error(n.a.State().On)
	}
	n.avail(10, 20, 5)
	n.tick("")
	calm(0, 1, 1)
	n.avail(9, 20, 5)
	n.tick("on, off s1, off s2")
	calm(0, 0, 0)
}

// P25.5, step 1: the timers' round is the agent's; the last of several samples counts.
func TestSampleOfARound(t *testing.T) {
	n := start(t, at(10), "maxage 2", "maxage 5")
	for time := 8; time < 10; time++ {
		if n.a.Sample(api.Raw{Time: time, Avail: [3]float64{0, 50, 50}}) != api.OK {
			t.Error("not taken")
		}
	}
	n.tick("on")
	if !slices.Equal(n.a.Since(), []int{11, -1}) {
		t.Error(n.a.Since())
	}
	n.avail(50, 50, 50)
	if n.a.Sample(api.Raw{Time: 12}) != api.ErrStale {
		t.Error("a sample of a round that is to come was taken")
	}
	n.tick("")
	if !slices.Equal(n.a.Since(), []int{-1, -1}) || n.a.Calm() != [3]int{1, 0, 0} {
		t.Error(n.a.Since(), n.a.Calm())
	}
}

// P25.5, step 2: dead containers.
func TestContainers(t *testing.T) {
	n := start(t, at(50), "dead 0", "dead 2")
	for i, x := range []struct{ state, last int }{{api.Down, 5}, {api.Created, 4}, {api.Broken, 9}, {api.Pulled, 4}, {api.Down, 7}} {
		n.bring(fmt.Sprint("d", i), x.state, x.last)
	}
	n.feed(false, true, false)
	n.tick("dead d3")
	n.has(n.boxes(), "d0:4.1@5 d1:1.1@4 d2:6.2@9 d4:4.0@7")
	n.tick("dead d1, dead d0")
	n.has(n.boxes(), "d2:6.2@9 d4:4.0@7")
	n.tick("")
	n.avail(50, 5, 50)
	n.feed(true, false)
	n.tick("on s1, dead d4")
	n.has(n.boxes(), "d2:6.3@9")
	n.tick("")
	n.has(n.boxes(), "d2:6.3@9")
	n.avail(5, 50, 5)
	n.tick("on")
	n.has(n.boxes(), "d2:6.3@9")
}

// P25.5, step 2: a removal that fails more often than retries breaks what was there; a pod's container isn't dead.
func TestContainersOfPods(t *testing.T) {
	n := start(t, at(50, entry(pod("a", 0), 2), entry(pod("b", 0), 3)))
	n.bring("a", api.Down, 1)
	n.bring("b", api.Created, 1)
	n.bring("c", api.Created, 1)
	n.feed(false, false)
	n.tick("gone b")
	n.has(n.boxes(), "a:4.1@1 b:1.0@1 c:1.1@1")
	n.feed(false, false, true)
	n.tick("")
	n.has(n.boxes(), "b:1.1@1 c:6.2@1")
	n.tick("dead b, dead c, begin a")
}

// P25.5, step 2: the images of all pods of the table are used.
func TestTouch(t *testing.T) {
	l := []api.Entry{entry(pod("a", 0), 1), entry(pod("b", 0), 2), entry(pod("c", 0), 3)}
	for i := range l {
		l[i].Pod.Image = "img-" + l[i].Pod.Id
	}
	n := start(t, at(20, l...))
	for i, id := range []string{"x", "y", "z", "w"} {
		n.w.Create(id, 0)
		n.w.Pull(id, []string{"img-a", "img-b", "img-c", "img-d"}[i], i, i)
		n.w.Ask(id, api.DoRemove, 0)
	}
	n.tick("begin a, begin b, gone c")
	n.has(n.images(), "img-a:0@21 img-b:1@21 img-c:2@21 img-d:3@3")
}

// stock lets the runtime have images of sizes, used in rounds.
func (n *node) stock(name string, size, round int) {
	n.t.Helper()
	n.w.Create("stock", 0)
	n.w.Pull("stock", name, size, round)
	if well, err := n.w.Ask("stock", api.DoRemove, 0); !well || err != api.OK {
		n.t.Fatal(well, err)
	}
}

// P25.5, step 3: images are collected for what is missed.
func TestImages(t *testing.T) {
	for i, x := range []struct {
		avail  float64
		well   []bool
		want   string
		images string
	}{
		{20, nil, "", "a:5@1 b:5@2 c:4@2 d:9@3 web:7@31"},
		{19, nil, "on s1, image a 5", "b:5@2 c:4@2 d:9@3 web:7@31"},
		{15, nil, "on s1, image a 5", "b:5@2 c:4@2 d:9@3 web:7@31"},
		{14, nil, "on s1, image a 5, image b 5", "c:4@2 d:9@3 web:7@31"},
		{14, []bool{false}, "on s1, image b 5, image c 4", "a:5@1 d:9@3 web:7@31"},
		{14, []bool{true, false}, "on s1, image a 5, image c 4", "b:5@2 d:9@3 web:7@31"},
		{0, nil, "on s1, image a 5, image b 5, image c 4, image d 9", "web:7@31"},
		{0, []bool{true, true, true, false}, "on s1, image a 5, image b 5, image c 4, evict p s1", "d:9@3 web:7@31"},
		{15, []bool{false, false, false, false}, "on s1, evict p s1", "a:5@1 b:5@2 c:4@2 d:9@3 web:7@31"},
		{15, []bool{false, false, false, true, false, false}, "on s1, image d 9", "a:5@1 b:5@2 c:4@2 web:7@31"},
	} {
		n := start(t, at(30, entry(pod("p", 0), 2), entry(critical("q", 0), 2)))
		n.stock("web", 7, 0)
		n.stock("a", 5, 1)
		n.stock("b", 5, 2)
		n.stock("c", 4, 2)
		n.stock("d", 9, 3)
		n.bring("p", api.Up, 1)
		n.bring("q", api.Up, 1)
		n.feed(x.well...)
		n.avail(50, x.avail, 50)
		l, err := n.a.Tick()
		if got := tell(l); got != x.want && got != x.want+", gone p" || err != api.OK {
			t.Errorf("%d: %q, %d, not %q", i, got, err, x.want)
		}
		n.has(n.images(), x.images)
		n.check()
	}
}

// P25.5, step 3: the edge is that of thresholds that hold; a condition stays on.
func TestImagesForTheEdge(t *testing.T) {
	n := start(t, at(30), "threshold disk<20", "threshold disk<20\nthreshold disk<50%:3\nthreshold disk<10")
	for i := range 9 {
		n.stock(fmt.Sprint("i", i), 10, i)
	}
	n.avail(50, 15, 50)
	n.tick("on s1, image i0 10")
	n.avail(50, 35, 50)
	n.tick("")
	n.avail(50, 35, 50)
	n.tick("")
	n.avail(50, 35, 50)
	n.tick("image i1 10, image i2 10")
	n.avail(50, 9, 50)
	n.tick("image i3 10, image i4 10, image i5 10, image i6 10, image i7 10")
	n.avail(math.Inf(1), 50, 50)
	n.tick("")
	n.avail(50, 50, 50)
	n.tick("off s1")
	n.avail(50, 0, 50)
	n.tick("on s1, image i8 10")
}

// P25.5, step 4: one pod a round, of the first signal under pressure, and none while one ends.
func TestEvict(t *testing.T) {
	n := start(t, at(30, entry(pod("a", 5), 2), entry(pod("b", 0), 2), entry(critical("c", 0), 2), entry(pod("d", 1), 1)), "threshold disk<20", "threshold disk<20\nthreshold pid<10")
	for _, id := range []string{"a", "b", "c"} {
		n.bring(id, api.Up, 1)
	}
	n.feed(false)
	n.avail(50, 5, 5, use("a", 0, 1, 0), use("b", 1, 0, 1), use("c", 9, 9, 9))
	n.tick("on s1, on s2, evict a s1, begin d")
	n.has(n.table(), "a3 b2 c2 d2")
	n.avail(5, 5, 5, use("b", 0, 0, 1))
	n.tick("on, gone a, pull web 7")
	n.has(n.table(), "b2 c2 d2")
	n.avail(5, 5, 5, use("d", 1, 0, 0))
	n.tick("dead a, evict d, gone d")
	n.avail(50, 50, 5)
	n.tick("dead d, evict b s2, gone b")
	n.avail(0, 0, 0)
	n.tick("dead b")
	n.has(n.table(), "c2")
}

// P25.5, step 4: a pod that was admitted may be evicted; without a fresh sample nobody is.
func TestEvictAdmitted(t *testing.T) {
	n := start(t, at(30, entry(pod("a", 5), 1)))
	n.avail(5, 50, 50)
	n.tick("on, evict a, gone a")
	n.is("admit b", api.OK)(n.a.Admit(pod("b", 5, 1)))
	n.tick("begin b", "pull web 7", "up b", "")
	n.avail(9, 50, 50)
	n.tick("evict b, gone b")
}

// P25.5, step 5: an admitted pod, and all containers that there may be.
func TestAdmitted(t *testing.T) {
	for i, x := range []struct {
		state  int
		well   []bool
		want   string
		table  string
		boxes  string
		behind string
	}{
		{0, []bool{false}, "begin a", "a2", "a:1.0@31", "begin b"}, {api.Up, nil, "", "a1", "a:4.0@31", ""}, {api.Up, []bool{false}, "", "a1", "a:3.1@5", ""},
		{api.Up, []bool{false, false}, "", "a1", "a:3.1@5", ""}, {api.Created, nil, "", "a1", "", "begin a"}, {api.Created, []bool{false}, "", "a1", "a:1.1@5", ""},
		{api.Pulled, nil, "", "a1", "", "begin a"}, {api.Down, nil, "", "a1", "", "begin a"}, {api.Broken, nil, "", "a1", "", "begin a"}, {api.Broken, []bool{false}, "", "a1", "a:6.3@5", ""},
	} {
		n := start(t, at(30, entry(pod("a", 5), 1)))
		if x.state != 0 {
			n.bring("a", x.state, 5)
		}
		n.feed(x.well...)
		n.tick(x.want)
		if n.table() != x.table || n.boxes() != x.boxes {
			t.Errorf("%d: %q, %q", i, n.table(), n.boxes())
		}
	}
	n := start(t, at(30, entry(pod("a", 5), 1)))
	n.bring("a", api.Up, 5)
	n.tick("", "", "begin a", "pull web 7", "up a")
}

// P25.5, step 5: a running pod, and all containers that there may be.
func TestRunning(t *testing.T) {
	for i, x := range []struct {
		state int
		well  []bool
		want  string
		table string
		boxes string
	}{
		{0, []bool{false}, "begin a", "a2", "a:1.0@31"}, {api.Created, nil, "pull web 7", "a2", "a:2.0@31"}, {api.Created, []bool{false}, "", "a2", "a:1.1@5"},
		{api.Pulled, nil, "up a", "a2", "a:3.0@31"}, {api.Pulled, []bool{false}, "", "a2", "a:2.1@5"}, {api.Up, []bool{false}, "", "a2", "a:3.0@5"},
		{api.Down, nil, "", "a2", ""}, {api.Down, []bool{false}, "", "a2", "a:4.1@5"}, {api.Broken, []bool{false}, "fail a", "", "a:6.2@5"},
	} {
		n := start(t, at(30, entry(pod("a", 5), 2)))
		if x.state != 0 {
			n.bring("a", x.state, 5)
		}
		n.feed(x.well...)
		n.tick(x.want)
		if n.table() != x.table || n.boxes() != x.boxes {
			t.Errorf("%d: %q, %q", i, n.table(), n.boxes())
		}
	}
	n := start(t, at(30, entry(pod("a", 5), 2)))
	n.stock("web", 99, 3)
	n.bring("a", api.Created, 5)
	n.feed(false)
	n.tick("", "")
	n.has(n.boxes(), "a:2.1@31")
	n.has(n.images(), "web:99@32")
	n = start(t, at(30, entry(pod("a", 5), 2)))
	n.feed(true, false, false)
	n.tick("begin a", "pull web 7", "", "", "fail a", "dead a", "")
}

// P25.5, step 5: a pod that is to end, and all containers that there may be.
func TestTerminating(t *testing.T) {
	for i, x := range []struct {
		state int
		well  []bool
		want  string
		table string
		boxes string
	}{
		{0, []bool{false}, "gone a", "", ""}, {api.Created, []bool{false}, "gone a", "", "a:1.0@5"}, {api.Pulled, []bool{false}, "gone a", "", "a:2.0@5"},
		{api.Up, nil, "gone a", "", "a:4.0@31"}, {api.Up, []bool{false}, "", "a3", "a:3.1@5"}, {api.Down, []bool{false}, "gone a", "", "a:4.0@5"}, {api.Broken, []bool{false}, "gone a", "", "a:6.2@5"},
	} {
		n := start(t, at(30, entry(critical("a", 5), 3)))
		if x.state != 0 {
			n.bring("a", x.state, 5)
		}
		n.feed(x.well...)
		n.tick(x.want)
		if n.table() != x.table || n.boxes() != x.boxes {
			t.Errorf("%d: %q, %q", i, n.table(), n.boxes())
		}
	}
	n := start(t, at(30, entry(pod("a", 5), 3)))
	n.bring("a", api.Up, 5)
	n.feed(false, false)
	n.tick("", "gone a", "dead a")
}

// P25.5, step 6: lost containers.
func TestLost(t *testing.T) {
	n := start(t, at(30, entry(pod("m", 5), 2)), "dead 0", "dead 9")
	for _, id := range []string{"z", "m", "b", "x", "a"} {
		n.bring(id, api.Up, 5)
	}
	n.feed(false, true, false, true)
	n.tick("stop b, stop z")
	n.has(n.boxes(), "a:3.1@5 b:4.0@31 m:3.0@5 x:3.1@5 z:4.0@31")
	n.feed(false)
	n.tick("stop x")
	n.has(n.boxes(), "a:6.2@5 b:4.0@31 m:3.0@5 x:4.0@32 z:4.0@31")
	n.is("delete m", api.OK)(n.a.Delete("m"))
	n.is("admit k", api.OK)(n.a.Admit(pod("k", 5)))
	n.bring("k", api.Up, 5)
	n.feed(false)
	n.tick("gone m")
	n.has(n.boxes(), "a:6.2@5 b:4.0@31 k:3.1@5 m:4.0@33 x:4.0@32 z:4.0@31")
}

// A pod that was preempted leaves a container, which is lost, then dead.
func TestPreempted(t *testing.T) {
	n := start(t, api.State{})
	n.is("admit a", api.OK)(n.a.Admit(pod("a", 0, 4, 4, 4)))
	n.tick("begin a", "pull web 7", "up a")
	n.is("preempt a, admit b", api.OK)(n.a.Admit(critical("b", 1, 7, 1, 1)))
	n.tick("begin b, stop a", "dead a", "up b")
}

// P25.5: outcomes are taken in the order of the steps.
func TestOrderOfSteps(t *testing.T) {
	n := start(t, at(30, entry(pod("a", 5), 2), entry(pod("b", 5), 2), entry(pod("c", 5), 1), entry(critical("d", 5), 2)))
	n.stock("old", 3, 1)
	n.bring("a", api.Pulled, 5)
	n.bring("b", api.Created, 5)
	n.bring("d", api.Broken, 5)
	n.bring("e", api.Down, 5)
	n.bring("f", api.Up, 5)
	n.feed(false, false, true, true, false)
	n.avail(5, 19, 5, use("b", 1, 0, 0))
	// e isn't removed, old stays, b goes, a starts, c is created, d fails, f isn't stopped.
	n.tick("on, on s1, evict b, up a, gone b, begin c, fail d, stop f")
	n.has(n.boxes(), "a:3.0@31 b:1.0@5 c:1.0@31 d:6.2@5 e:4.1@5 f:4.0@31")
	if got := n.w.Waiting(); !slices.Equal(got, []bool{false}) {
		t.Error(got)
	}
	n.has(n.images(), "old:3@1")
}

// P25.7: with an error nothing is changed; one is evicted a round at most; the table fits; the checkpoint is the state.
func TestLaws(t *testing.T) {
	random := rand.New(rand.NewSource(25))
	for range 60 {
		n := start(t, api.State{})
		for range 120 {
			before, boxes := n.a.State(), n.boxes()+n.images()
			id := fmt.Sprint("p", random.Intn(6))
			var l []api.Event
			var err api.Errno
			tick := false
			switch random.Intn(8) {
			case 0, 1:
				p := pod(id, random.Intn(3), random.Intn(6), random.Intn(6), random.Intn(12))
				p.Critical, p.Image = random.Intn(3) == 0, "i"+fmt.Sprint(random.Intn(4))
				l, err = n.a.Admit(p)
			case 2:
				l, err = n.a.Delete(id)
			case 3:
				n.feed(random.Intn(2) == 0, random.Intn(3) > 0)
			case 4, 5:
				err = n.a.Sample(api.Raw{Time: n.a.State().Round - random.Intn(2), Avail: [3]float64{float64(random.Intn(30)), float64(random.Intn(40)), float64(random.Intn(200))}, Use: []api.Usage{use(id, 9, 9, 9)}})
			default:
				tick = true
				l, err = n.a.Tick()
			}
			s := n.a.State()
			if err != api.OK && (len(l) > 0 || !same(s, before) || n.boxes()+n.images() != boxes) {
				t.Fatal(err, l, before, s)
			}
			n.check()
			n.laws(before, l, tick)
		}
	}
}

// laws holds a step against the promises.
func (n *node) laws(before api.State, l []api.Event, tick bool) {
	n.t.Helper()
	s := n.a.State()
	if tick != (s.Round == before.Round+1) {
		n.t.Fatal(before, s)
	}
	var sums [3]int
	ending, evicted := false, 0
	for _, e := range s.Pods {
		for i, asked := range e.Pod.Req {
			sums[i] += asked
		}
	}
	if sums[0] > 10 || sums[1] > 10 || sums[2] > 10 {
		n.t.Fatal("the table doesn't fit", s)
	}
	may := map[string]bool{}
	for _, e := range before.Pods {
		ending = ending || e.Phase == api.Terminating
		may[e.Pod.Id] = rank.May(e)
	}
	for _, e := range l {
		if e.Kind == api.EvEvict {
			evicted++
			if ending || !may[e.Id] || !s.On[e.Signal] {
				n.t.Fatal(before, e)
			}
		}
	}
	if evicted > 1 {
		n.t.Fatal("more than one", l)
	}
}

// P5: under pressure in each round none that may be evicted is left.
func TestPressureGoesOn(t *testing.T) {
	random := rand.New(rand.NewSource(5))
	for range 50 {
		var l []api.Entry
		for i := range 1 + random.Intn(7) {
			p := pod(fmt.Sprint("p", i), random.Intn(3), 1)
			p.Critical = random.Intn(4) == 0
			l = append(l, entry(p, 1+random.Intn(3)))
		}
		n := start(t, at(5, l...))
		may := 0
		for _, e := range l {
			if rank.May(e) {
				may++
			}
			if random.Intn(2) == 0 {
				n.bring(e.Pod.Id, 1+random.Intn(4), 1)
			}
		}
		for range 200 {
			n.feed(random.Intn(2) == 0)
		}
		for range 2 * (may + 1) {
			n.avail(9, 50, 50)
			if _, err := n.a.Tick(); err != api.OK {
				t.Fatal(err)
			}
		}
		for _, e := range n.a.State().Pods {
			if rank.May(e) {
				t.Fatal(l, n.a.State())
			}
		}
	}
}
