package agent_test

import (
	"fmt"
	"math"
	"slices"
	"strings"
	"testing"

	"bilge/agent"
	"bilge/api"
	"bilge/ckpt"
	"bilge/disk"
	"bilge/frame"
	"bilge/state"
	"bilge/world"
)

const config = `capacity 100 100 100
allocatable 10 10 10
threshold memory<10%
threshold disk<20
period 2
retries 1
maxage 2
dead 0
`

// node is an agent, and what outlives it.
type node struct {
	t    *testing.T
	text string
	d    *disk.Disk
	w    *world.World
	a    *agent.Agent
}

// start makes a node, whose disk has the state, of a config in which lines are changed.
func start(t *testing.T, s api.State, change ...string) *node {
	t.Helper()
	n := &node{t: t, text: strings.NewReplacer(change...).Replace(config), d: disk.New(), w: world.New(1)}
	if s.Round > 0 || len(s.Pods) > 0 || s.On != [3]bool{} {
		keep(t, n.d, s)
	}
	n.renew()
	return n
}

// keep saves the state on the disk.
func keep(t *testing.T, d *disk.Disk, s api.State) {
	t.Helper()
	b, err := state.Put(s)
	store, _, _ := ckpt.Open(d)
	if err != api.OK || store.Save(b) != api.OK {
		t.Fatal("can't keep", s)
	}
}

func (n *node) renew() {
	n.t.Helper()
	a, err := agent.New([]byte(n.text), n.d, n.w)
	if err != api.OK {
		n.t.Fatal(err)
	}
	n.a = a
}

// kept is the state on the disk, as a crash would leave it, and its version.
func (n *node) kept() (api.State, int) {
	n.t.Helper()
	d := n.d.Copy()
	d.Crash(nil)
	store, body, err := ckpt.Open(d)
	if err == api.ErrNone {
		return api.State{}, 0
	}
	s, err := state.Get(body)
	if err != api.OK {
		n.t.Fatal(err)
	}
	return s, store.Version()
}

func same(a, b api.State) bool {
	return a.Round == b.Round && a.On == b.On && slices.Equal(a.Pods, b.Pods)
}

// check holds the checkpoint against the state.
func (n *node) check() {
	n.t.Helper()
	if s, _ := n.kept(); !same(s, n.a.State()) {
		n.t.Error("kept", s, "not", n.a.State())
	}
}

var words = []string{"", "admit", "preempt", "reject", "delete", "evict", "on", "off", "begin", "pull", "up", "fail", "gone", "dead", "image", "stop", "recover"}

// tell is the events, shortly: the word, the Id, the Signal and N, where they aren't zero.
func tell(l []api.Event) string {
	var all []string
	for _, e := range l {
		s := words[e.Kind]
		if e.Id != "" {
			s += " " + e.Id
		}
		if e.Signal != 0 {
			s += fmt.Sprint(" s", e.Signal)
		}
		if e.N != 0 {
			s += fmt.Sprint(" ", e.N)
		}
		all = append(all, s)
	}
	return strings.Join(all, ", ")
}

// is holds a call's answer against what is wanted.
func (n *node) is(want string, err api.Errno) func([]api.Event, api.Errno) {
	n.t.Helper()
	return func(l []api.Event, got api.Errno) {
		n.t.Helper()
		if tell(l) != want || got != err {
			n.t.Errorf("%q, %d, not %q, %d", tell(l), got, want, err)
		}
		if got == api.OK {
			n.check()
		}
	}
}

// tick goes through rounds, with the events of each.
func (n *node) tick(want ...string) {
	n.t.Helper()
	for _, s := range want {
		n.is(s, api.OK)(n.a.Tick())
	}
}

// avail hands in a sample of the coming round's time.
func (n *node) avail(memory, disk, pid float64, l ...api.Usage) {
	n.t.Helper()
	if err := n.a.Sample(api.Raw{Time: n.a.State().Round, Avail: [3]float64{memory, disk, pid}, Use: l}); err != api.OK {
		n.t.Error("sample", err)
	}
}

// table tells the table: Ids with phases.
func (n *node) table() string {
	var all []string
	for _, e := range n.a.State().Pods {
		all = append(all, e.Pod.Id+fmt.Sprint(e.Phase))
	}
	return strings.Join(all, " ")
}

// boxes tells the containers: Ids with states and tries, and the rounds.
func (n *node) boxes() string {
	var all []string
	for _, c := range n.w.Containers() {
		all = append(all, fmt.Sprintf("%s:%d.%d@%d", c.Id, c.Box.State, c.Box.Tries, c.Last))
	}
	return strings.Join(all, " ")
}

// images tells the images: names, sizes, and the rounds.
func (n *node) images() string {
	var all []string
	for _, m := range n.w.Images() {
		all = append(all, fmt.Sprintf("%s:%d@%d", m.Name, m.Size, m.Last))
	}
	return strings.Join(all, " ")
}

// has holds a telling against what is wanted.
func (n *node) has(got, want string) {
	n.t.Helper()
	if got != want {
		n.t.Errorf("%q, not %q", got, want)
	}
}

// bring lets the runtime have a container in a state, of the image of its name, without outcomes that wait.
func (n *node) bring(id string, to, round int) {
	n.t.Helper()
	n.w.Create(id, round)
	if to == api.Broken {
		n.w.Feed([]bool{false, false})
		n.w.Pull(id, "none", 1, round)
		n.w.Pull(id, "none", 1, round)
	} else if to != api.Created {
		n.w.Pull(id, "img-"+id, 1, round)
		if to == api.Up || to == api.Down {
			n.w.Ask(id, api.DoStart, round)
		}
		if to == api.Down {
			n.w.Ask(id, api.DoStop, round)
		}
		n.w.Drop("img-" + id)
	}
	if b, _ := n.w.Box(id); b.State != to || len(n.w.Waiting()) > 0 {
		n.t.Fatal("can't bring", id, b)
	}
}

func (n *node) feed(well ...bool) {
	n.t.Helper()
	if n.w.Feed(well) != api.OK {
		n.t.Error("can't feed")
	}
}

func pod(id string, prio int, req ...int) api.Pod {
	p := api.Pod{Id: id, Prio: prio, Image: "web", Size: 7}
	copy(p.Req[:], req)
	return p
}

func critical(id string, prio int, req ...int) api.Pod {
	p := pod(id, prio, req...)
	p.Critical = true
	return p
}

func use(id string, a, b, c float64) api.Usage {
	return api.Usage{Id: id, Amount: [3]float64{a, b, c}}
}

func at(round int, l ...api.Entry) api.State { return api.State{Round: round, Pods: l} }

func entry(p api.Pod, phase int) api.Entry { return api.Entry{Pod: p, Phase: phase} }

// P25.1.
func TestNew(t *testing.T) {
	n := start(t, api.State{})
	if !same(n.a.State(), api.State{}) || n.a.Calm() != [3]int{} || !slices.Equal(n.a.Since(), []int{-1, -1}) || len(n.d.Names()) != 0 || n.d.Open() != 0 {
		t.Error(n.a.State(), n.a.Calm(), n.a.Since())
	}
	s := at(7, entry(pod("a", 0, 5), api.Running), entry(pod("b", 0, 5), api.Terminating))
	s.On = [3]bool{true, false, true}
	n = start(t, s)
	if !same(n.a.State(), s) || n.a.Calm() != [3]int{} || !slices.Equal(n.a.Since(), []int{-1, -1}) {
		t.Error(n.a.State(), n.a.Calm(), n.a.Since())
	}
	if _, version := n.kept(); version != 1 || n.d.Open() != 0 {
		t.Error("something was saved", version)
	}
}

// P25.1: a text that is no config leaves the disk as it is.
func TestNewOfWrongTexts(t *testing.T) {
	for text, want := range map[string]api.Errno{
		"": api.ErrNone, "period 1": api.ErrNone, "\x00": api.ErrText, config + "x": api.ErrText, config + "dead 1": api.ErrTwice,
		strings.Replace(config, "period 2", "period 0", 1): api.ErrArg,
	} {
		d := disk.New()
		d.Do(api.Op{Kind: api.OpWrite, Name: "main", Bytes: []byte("no frame")})
		d.Do(api.Op{Kind: api.OpWrite, Name: "temp"})
		if a, err := agent.New([]byte(text), d, world.New(1)); a != nil || err != want || d.Open() != 2 || len(d.Names()) != 2 {
			t.Errorf("%q: %v, %d", text, a, err)
		}
	}
}

// P25.1: checkpoints that can't be.
func TestNewOfWrongCheckpoints(t *testing.T) {
	framed := func(body []byte) []byte {
		b, _ := frame.Put(3, body)
		return b
	}
	body := func(s api.State) []byte {
		b, err := state.Put(s)
		if err != api.OK {
			t.Fatal(err)
		}
		return b
	}
	good := body(at(3, entry(pod("a", 0, 10, 10, 10), 1)))
	for i, x := range []struct {
		file []byte
		want api.Errno
	}{
		{framed(good), api.OK}, {good, api.ErrForm}, {nil, api.ErrForm}, {framed(good)[1:], api.ErrForm}, {framed(nil), api.ErrForm}, {framed(good[1:]), api.ErrForm},
		{framed(append(slices.Clone(good), 0)), api.ErrForm}, {framed(body(at(3, entry(pod("a", 0, 11), 1)))), api.ErrForm},
		{framed(body(at(3, entry(pod("a", 0, 0, 0, 5), 1), entry(pod("b", 0, 0, 0, 6), 3)))), api.ErrForm}, {framed(body(at(0))), api.OK},
	} {
		d := disk.New()
		d.Do(api.Op{Kind: api.OpWrite, Name: "main", Bytes: x.file})
		d.Sync()
		if a, err := agent.New([]byte(config), d, world.New(1)); (a != nil) != (x.want == api.OK) || err != x.want {
			t.Error(i, a, err)
		}
	}
}

// P25.2.
func TestAdmit(t *testing.T) {
	n := start(t, api.State{})
	n.is("admit b", api.OK)(n.a.Admit(pod("b", 0, 4, 4, 4)))
	n.is("admit a", api.OK)(n.a.Admit(pod("a", 2, 4, 4, 4)))
	n.has(n.table(), "a1 b1")
	_, version := n.kept()
	n.is("reject c 4", api.OK)(n.a.Admit(pod("c", 9, 3, 0, 0)))
	n.is("", api.ErrTwice)(n.a.Admit(pod("a", 9, 0, 0, 0)))
	n.is("", api.ErrArg)(n.a.Admit(pod("C", 9, 0, 0, 0)))
	n.is("", api.ErrArg)(n.a.Admit(api.Pod{}))
	n.is("reject c 4", api.OK)(n.a.Admit(critical("c", 9, 11)))
	if _, again := n.kept(); again != version || version != 2 {
		t.Error("saved without need", version, again)
	}
	n.is("preempt b, admit c", api.OK)(n.a.Admit(critical("c", 9, 5)))
	n.has(n.table(), "a1 c1")
	n.is("preempt a, admit d", api.OK)(n.a.Admit(critical("d", 9, 5)))
	n.is("reject e 4", api.OK)(n.a.Admit(critical("e", 10, 1)))
	n.has(n.table(), "c1 d1")
	if s := n.a.State(); s.Round != 0 || s.Pods[0].Pod != critical("c", 9, 5) {
		t.Error(s)
	}
	n = start(t, at(5, entry(pod("a", 0, 4), 2), entry(pod("b", 0, 4), 3), entry(pod("c", 0, 2), 1)))
	n.is("preempt a, preempt b, preempt c, admit p", api.OK)(n.a.Admit(critical("p", 1, 10)))
	n.has(n.table(), "p1")
}

// P25.2: a full table.
func TestAdmitFull(t *testing.T) {
	n := start(t, api.State{})
	for i := range api.MaxPods {
		n.is(fmt.Sprint("admit p", i), api.OK)(n.a.Admit(pod(fmt.Sprint("p", i), 0)))
	}
	n.is("", api.ErrFull)(n.a.Admit(critical("x", 9)))
	n.is("", api.ErrTwice)(n.a.Admit(pod("p7", 0)))
}

// P25.2: conditions that are on bar.
func TestAdmitUnderPressure(t *testing.T) {
	for i, x := range []struct {
		on   [3]bool
		p    api.Pod
		want string
	}{
		{[3]bool{true, false, false}, pod("a", 0), "reject a 3"}, {[3]bool{true, false, false}, pod("a", 0, 1), "admit a"}, {[3]bool{false, true, false}, pod("a", 0, 1), "reject a s1 3"},
		{[3]bool{false, false, true}, pod("a", 0, 1), "reject a s2 3"}, {[3]bool{true, true, true}, pod("a", 0), "reject a 3"}, {[3]bool{true, true, true}, critical("a", 0), "admit a"},
		{[3]bool{false, true, true}, pod("a", 0, 99), "reject a s1 3"},
	} {
		s := at(5)
		s.On = x.on
		n := start(t, s)
		n.is(x.want, api.OK)(n.a.Admit(x.p))
		if len(n.a.State().Pods) != strings.Count(x.want, "admit") {
			t.Error(i, n.a.State())
		}
	}
}

// P25.3.
func TestDelete(t *testing.T) {
	n := start(t, at(5, entry(pod("a", 0), 1), entry(critical("b", 0), 2), entry(pod("c", 0), 3)))
	n.is("", api.ErrNone)(n.a.Delete("x"))
	n.is("", api.ErrNone)(n.a.Delete(""))
	n.is("", api.ErrState)(n.a.Delete("c"))
	if _, version := n.kept(); version != 1 {
		t.Error("saved without need")
	}
	n.is("delete a", api.OK)(n.a.Delete("a"))
	n.is("delete b", api.OK)(n.a.Delete("b"))
	n.is("", api.ErrState)(n.a.Delete("a"))
	n.has(n.table(), "a3 b3 c3")
	if _, version := n.kept(); version != 3 {
		t.Error("not saved")
	}
}

// P25.4.
func TestSample(t *testing.T) {
	raw := func(time int, l ...api.Usage) api.Raw {
		return api.Raw{Time: time, Avail: [3]float64{50, 50, 50}, Use: l}
	}
	n := start(t, at(7))
	nan := raw(9)
	nan.Avail[1] = math.NaN()
	for _, x := range []struct {
		r    api.Raw
		want api.Errno
	}{
		{nan, api.ErrArg}, {raw(7, use("A", 1, 1, 1)), api.ErrArg}, {raw(8, use("a", 1, 1, 1), use("a", 1, 1, 1)), api.ErrArg}, {raw(8), api.ErrStale}, {raw(5), api.ErrStale}, {raw(-1), api.ErrStale},
		{raw(6), api.OK}, {raw(6), api.ErrStale}, {raw(7), api.OK}, {raw(7), api.ErrStale}, {raw(6), api.ErrStale},
	} {
		if err := n.a.Sample(x.r); err != x.want {
			t.Error(x.r, err)
		}
	}
	if _, version := n.kept(); version != 1 {
		t.Error("a sample was saved")
	}
	n.tick("")
	if n.a.Sample(raw(7)) != api.ErrStale || n.a.Sample(raw(8)) != api.OK {
		t.Error("behind a round")
	}
	n = start(t, api.State{})
	if n.a.Sample(raw(-1)) != api.ErrStale || n.a.Sample(raw(0)) != api.OK || n.a.Sample(raw(0)) != api.ErrStale {
		t.Error("the first one")
	}
	n.tick("", "", "")
	n.renew()
	if n.a.Sample(raw(1)) != api.ErrStale || n.a.Sample(raw(2)) != api.OK {
		t.Error("of a new agent no sample was taken")
	}
}

// P25.5: rounds end.
func TestLastRound(t *testing.T) {
	n := start(t, at(api.MaxRound-1))
	n.tick("")
	n.is("", api.ErrFull)(n.a.Tick())
	if s := n.a.State(); s.Round != api.MaxRound {
		t.Error(s)
	}
	n.is("admit a", api.OK)(n.a.Admit(pod("a", 0)))
	n.avail(5, 5, 5)
	n.is("", api.ErrFull)(n.a.Tick())
	n.check()
}

// P25.6, P25.2, P25.3, P25.5: a fuse cuts the save off.
func TestFuse(t *testing.T) {
	calls := []func(a *agent.Agent) ([]api.Event, api.Errno){
		func(a *agent.Agent) ([]api.Event, api.Errno) { return a.Admit(pod("b", 0)) },
		func(a *agent.Agent) ([]api.Event, api.Errno) { return a.Delete("a") },
		func(a *agent.Agent) ([]api.Event, api.Errno) { return a.Tick() },
	}
	old := at(5, entry(pod("a", 0), 1))
	after := []string{"a1 b1", "a3", "a2"}
	for _, steps := range []int{-1 << 63, -1, 0, 1, 2, 3, 4, 5, 1<<63 - 1} {
		for i, call := range calls {
			n := start(t, old)
			n.a.Fuse(steps)
			n.is("", api.ErrState)(call(n.a))
			for _, again := range calls {
				n.is("", api.ErrState)(again(n.a))
			}
			if n.a.Sample(api.Raw{Time: 5}) != api.ErrState {
				t.Error("a dead agent takes a sample")
			}
			n.is("", api.ErrState)(n.a.Admit(api.Pod{}))
			n.is("", api.ErrState)(n.a.Delete("none"))
			if open := map[int]int{1: 1, 3: 1}[steps]; n.d.Open() != open {
				t.Error(steps, n.d.Open())
			}
			made, want := "a1", "a1"
			if steps >= 3 {
				made = after[i]
			}
			if steps >= 4 {
				want = after[i]
			}
			lost, all := *n, *n
			lost.d, all.d = n.d.Copy(), n.d.Copy()
			lost.d.Crash(nil)
			all.d.Crash([]int{1 << 20})
			lost.renew()
			all.renew()
			n.has(lost.table(), want)
			n.has(all.table(), made)
		}
	}
}

// P25.6: a fuse waits for a save; calls that don't save leave it.
func TestFuseWaits(t *testing.T) {
	n := start(t, at(5, entry(pod("a", 0, 9), 3)))
	n.a.Fuse(0)
	n.avail(50, 50, 50)
	n.is("", api.ErrNone)(n.a.Delete("x"))
	n.is("", api.ErrState)(n.a.Delete("a"))
	n.is("reject b 4", api.OK)(n.a.Admit(pod("b", 0, 2)))
	n.is("", api.ErrTwice)(n.a.Admit(pod("a", 0, 2)))
	n.is("", api.ErrState)(n.a.Admit(pod("b", 0, 1)))
	n.is("", api.ErrState)(n.a.Admit(pod("b", 0, 2)))
	n.renew()
	n.has(n.table(), "a3")
}

// P25.2, P25.5: a save whose version would be too great; of a fuse, too, that one's error is named first.
func TestLastVersion(t *testing.T) {
	body, _ := state.Put(at(5))
	for steps, want := range map[int]api.Errno{-1: api.ErrFull, 3: api.ErrState} {
		d := disk.New()
		b, _ := frame.Put(1<<32-2, body)
		d.Do(api.Op{Kind: api.OpWrite, Name: "main", Bytes: b})
		n := &node{t: t, text: config, d: d, w: world.New(1)}
		n.renew()
		n.is("admit a", api.OK)(n.a.Admit(pod("a", 0)))
		if steps >= 0 {
			n.a.Fuse(steps)
		}
		n.is("", want)(n.a.Tick())
		n.is("", api.ErrState)(n.a.Tick())
		n.is("", api.ErrState)(n.a.Admit(pod("b", 0)))
		if s, version := n.kept(); !same(s, at(5, entry(pod("a", 0), 1))) || version != 1<<32-1 {
			t.Error(s, version)
		}
	}
}

// P25.8.
func TestHandedInStays(t *testing.T) {
	text := []byte(config)
	n := &node{t: t, text: config, d: disk.New(), w: world.New(1)}
	n.a, _ = agent.New(text, n.d, n.w)
	if string(text) != config {
		t.Error("the text was changed")
	}
	clear(text)
	n.is("admit a", api.OK)(n.a.Admit(pod("a", 0, 1)))
	l := []api.Usage{use("b", 1, 1, 1), use("a", 5, 5, 5)}
	n.avail(50, 50, 50, l...)
	if l[0] != use("b", 1, 1, 1) {
		t.Error(l)
	}
	l[1].Id = "c"
	n.a.State().Pods[0].Phase = 9
	n.a.Since()[0] = 77
	if !slices.Equal(n.a.Since(), []int{-1, -1}) {
		t.Error(n.a.Since())
	}
	n.tick("begin a")
	if s := n.a.State(); !same(s, at(1, entry(pod("a", 0, 1), 2))) || !slices.Equal(n.a.Since(), []int{-1, -1}) {
		t.Error(s, n.a.Since())
	}
}
