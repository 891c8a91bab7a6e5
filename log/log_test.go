package log_test

import (
	"fmt"
	"math"
	"math/rand"
	"slices"
	"strings"
	"testing"

	"bilge/api"
	"bilge/log"
)

func ev(kind int, id string, signal, n int) api.Event {
	return api.Event{Kind: kind, Id: id, Signal: signal, N: n}
}

// lines are events with their lines, without the round.
func lines() map[string]api.Event {
	long := strings.Repeat("x", 60)
	return map[string]api.Event{
		"admit a": ev(api.EvAdmit, "a", 0, 0), "preempt b": ev(api.EvPreempt, "b", 0, 0), "reject a pressure memory": ev(api.EvReject, "a", 0, api.Pressure),
		"reject a pressure disk": ev(api.EvReject, "a", 1, api.Pressure), "reject a pressure pid": ev(api.EvReject, "a", 2, api.Pressure), "reject a room": ev(api.EvReject, "a", 0, api.Room),
		"delete c": ev(api.EvDelete, "c", 0, 0), "evict a memory": ev(api.EvEvict, "a", 0, 0), "evict a disk": ev(api.EvEvict, "a", 1, 0), "evict pid pid": ev(api.EvEvict, "pid", 2, 0),
		"on memory": ev(api.EvOn, "", 0, 0), "on disk": ev(api.EvOn, "", 1, 0), "on pid": ev(api.EvOn, "", 2, 0), "off memory": ev(api.EvOff, "", 0, 0), "off pid": ev(api.EvOff, "", 2, 0),
		"begin -": ev(api.EvBegin, "-", 0, 0), "pull web 7": ev(api.EvPull, "web", 0, 7), "pull web 0": ev(api.EvPull, "web", 0, 0), "pull web 9223372036854775807": ev(api.EvPull, "web", 0, api.Most),
		"up !~": ev(api.EvUp, "!~", 0, 0), "fail 0": ev(api.EvFail, "0", 0, 0), "gone a": ev(api.EvGone, "a", 0, 0), "dead " + long: ev(api.EvDead, long, 0, 0), "image web 1000": ev(api.EvImage, "web", 0, 1000),
		"image 3 4": ev(api.EvImage, "3", 0, 4), "stop a#": ev(api.EvStop, "a#", 0, 0), "recover 0": ev(api.EvRecover, "", 0, 0), "recover 1099511627776": ev(api.EvRecover, "", 0, api.MaxRound),
		"reject room room": ev(api.EvReject, "room", 0, api.Room), "reject pressure pressure memory": ev(api.EvReject, "pressure", 0, api.Pressure), "admit admit": ev(api.EvAdmit, "admit", 0, 0),
	}
}

// P27.1, P27.2.
func TestLineAndRead(t *testing.T) {
	for s, e := range lines() {
		if !log.Right(e) {
			t.Errorf("%q: %v is right", s, e)
		}
		for _, round := range []int{0, 1, 7, 1000, api.MaxRound} {
			want := fmt.Sprint(round) + " " + s
			if got, err := log.Line(round, e); got != want || err != api.OK {
				t.Errorf("%q, %d, not %q", got, err, want)
			}
			if r, got, err := log.Read(want); r != round || got != e || err != api.OK {
				t.Errorf("%q: %d, %v, %d", want, r, got, err)
			}
		}
		for _, round := range []int{-1, api.MaxRound + 1, math.MinInt, math.MaxInt} {
			if got, err := log.Line(round, e); got != "" || err != api.ErrArg {
				t.Errorf("%q, %d", got, err)
			}
		}
	}
	if got, _ := log.Line(7, ev(api.EvEvict, "a", api.Disk, 0)); got != "7 evict a disk" {
		t.Error("the chapter's example", got)
	}
}

// P27.1: each kind with fields that it doesn't tell, or that may not stand there.
func TestWrongEvents(t *testing.T) {
	wrong := []api.Event{{}, ev(17, "a", 0, 0), ev(-1, "a", 0, 0), ev(0, "a", 0, 0), ev(math.MaxInt, "", 0, 0)}
	for kind := 1; kind <= 16; kind++ {
		id, n := "a", 0
		switch kind {
		case api.EvOn, api.EvOff, api.EvRecover:
			id = ""
		case api.EvReject:
			n = api.Room
		}
		good := ev(kind, id, 0, n)
		if !log.Right(good) {
			t.Error(good, "is right")
		}
		if id == "" {
			wrong = append(wrong, ev(kind, "a", 0, 0))
		} else {
			for _, bad := range []string{"", "#", "a b", strings.Repeat("x", 61), "\n"} {
				wrong = append(wrong, ev(kind, bad, 0, n))
			}
		}
		wrong = append(wrong, ev(kind, id, -1, n), ev(kind, id, 3, n), ev(kind, id, 0, -1))
		switch kind {
		case api.EvEvict, api.EvOn, api.EvOff:
			wrong = append(wrong, ev(kind, id, 0, 1), ev(kind, id, 2, 7))
		case api.EvReject:
			wrong = append(wrong, ev(kind, id, 1, api.Room), ev(kind, id, 0, 0), ev(kind, id, 0, api.Yes), ev(kind, id, 0, api.Instead), ev(kind, id, 0, 5), ev(kind, id, 3, api.Pressure), ev(kind, "", 1, api.Pressure))
		case api.EvPull, api.EvImage, api.EvRecover:
			wrong = append(wrong, ev(kind, id, 1, 5), ev(kind, id, 0, math.MinInt))
		default:
			wrong = append(wrong, ev(kind, id, 1, 0), ev(kind, id, 0, 1))
		}
	}
	for _, e := range wrong {
		if log.Right(e) {
			t.Error(e, "isn't right")
		}
		if got, err := log.Line(5, e); got != "" || err != api.ErrArg {
			t.Error(e, got, err)
		}
		if got, err := log.Lines([]api.Step{{Events: []api.Event{ev(api.EvOn, "", 0, 0), e}}}); len(got) != 0 || err != api.ErrArg {
			t.Error(e, got, err)
		}
	}
}

// P27.2: texts that are no lines.
func TestReadOfWrongTexts(t *testing.T) {
	for _, s := range []string{
		"", " ", "7", "7 ", " 7 on memory", "7 on", "7 on ", "7 on memory ", "7  on memory", "7 on  memory", "7 on Memory", "7 on cpu", "7 on a memory", "on memory", "x on memory", "-1 on memory", "+7 on memory", "07 on memory",
		"00 on memory", "-0 on memory", "7k on memory", "1099511627777 on memory", "99999999999999999999 on memory", "7 admit", "7 admit ", "7 admit a b", "7 admit #a", "7 Admit a", "7 admit a 0", "7 admit " + strings.Repeat("x", 61),
		"7 x a", "7  a", "7 reject a", "7 reject a pressure", "7 reject a pressure cpu", "7 reject a room memory", "7 reject a Room", "7 reject a pressure memory 3", "7 reject room", "7 reject pressure memory", "7 evict a", "7 evict memory",
		"7 evict a x", "7 evict a memory x", "7 pull web", "7 pull web x", "7 pull web -1", "7 pull web 07", "7 pull web 7k", "7 pull web +7", "7 pull web 9223372036854775808", "7 pull 7", "7 pull web 7 7", "7 image web", "7 recover", "7 recover a",
		"7 recover -0", "7 recover 00", "7 recover a 1", "7 recover 1 ", "7\ton memory", "7 on memory\n", "7 admit a\x00", "7 admit é", "7 reject a room ", "7 reject a other",
	} {
		if round, e, err := log.Read(s); round != 0 || e != (api.Event{}) || err != api.ErrText {
			t.Errorf("%q: %d, %v, %d", s, round, e, err)
		}
	}
}

// P27.3.
func TestLines(t *testing.T) {
	step := func(round int, l ...api.Event) api.Step {
		return api.Step{Err: api.ErrFull, Events: l, State: api.State{Round: round}}
	}
	on, a, b := ev(api.EvOn, "", 1, 0), ev(api.EvAdmit, "a", 0, 0), ev(api.EvGone, "b", 0, 0)
	for i, x := range []struct {
		l    []api.Step
		want []string
		err  api.Errno
	}{
		{nil, nil, api.OK}, {[]api.Step{step(3)}, nil, api.OK}, {[]api.Step{step(-1), step(api.MaxRound + 1)}, nil, api.OK},
		{[]api.Step{step(3, on, a), step(4), step(2, b, on)}, []string{"3 on disk", "3 admit a", "2 gone b", "2 on disk"}, api.OK},
		{[]api.Step{step(3, on), step(-1, a)}, nil, api.ErrArg}, {[]api.Step{step(api.MaxRound+1, on), step(1, a)}, nil, api.ErrArg}, {[]api.Step{step(3, on), step(1, a, api.Event{})}, nil, api.ErrArg},
	} {
		if got, err := log.Lines(x.l); !slices.Equal(got, x.want) || err != x.err {
			t.Error(i, got, err)
		}
	}
}

// P27.3.
func TestCount(t *testing.T) {
	var want [17]int
	var l []api.Step
	for kind := -3; kind < 20; kind++ {
		events := slices.Repeat([]api.Event{{Kind: kind, Signal: 99}}, kind+5)
		l = append(l, api.Step{Events: events[:2]}, api.Step{Events: events[2:]}, api.Step{})
		if kind >= 1 && kind <= 16 {
			want[kind] = kind + 5
		}
	}
	if got := log.Count(l); got != want {
		t.Error(got)
	}
	if log.Count(nil) != [17]int{} || log.Count([]api.Step{{Events: []api.Event{{Kind: math.MinInt}, {Kind: math.MaxInt}}}}) != [17]int{} {
		t.Error("of no kind")
	}
}

// P27.4.
func TestUnlikeLines(t *testing.T) {
	random := rand.New(rand.NewSource(27))
	seen := map[string]string{}
	ids := []string{"", "a", "b", "memory", "room", "7", "a 7"}
	right := 0
	for range 30000 {
		e := ev(random.Intn(18), ids[random.Intn(7)], random.Intn(4), random.Intn(6)-1)
		round := random.Intn(3)
		line, err := log.Line(round, e)
		if log.Right(e) != (err == api.OK) {
			t.Fatal(e, err)
		}
		if err != api.OK {
			continue
		}
		right++
		what := fmt.Sprintf("%d %#v", round, e)
		if old, there := seen[line]; there && old != what {
			t.Fatal(line, old, what)
		}
		seen[line] = what
		if r, got, err := log.Read(line); r != round || got != e || err != api.OK {
			t.Fatal(line, r, got, err)
		}
	}
	if right < 1000 {
		t.Error(right)
	}
}

// P27.5.
func TestHandedInStays(t *testing.T) {
	l := []api.Step{{Events: []api.Event{ev(api.EvOn, "", 1, 0), ev(api.EvAdmit, "a", 0, 0)}}}
	first, _ := log.Lines(l)
	first[0] = "x"
	log.Count(l)
	second, _ := log.Lines(l)
	if l[0].Events[0] != ev(api.EvOn, "", 1, 0) || l[0].Events[1] != ev(api.EvAdmit, "a", 0, 0) || second[0] != "0 on disk" {
		t.Error(l, second)
	}
}
