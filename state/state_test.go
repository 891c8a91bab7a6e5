package state_test

import (
	"bytes"
	"encoding/binary"
	"fmt"
	"math/rand"
	"reflect"
	"slices"
	"strings"
	"testing"

	"bilge/api"
	"bilge/pod"
	"bilge/state"
)

func entry(id string, phase int, req ...int) api.Entry {
	e := api.Entry{Pod: api.Pod{Id: id, Prio: -3, Image: "web", Size: 7}, Phase: phase}
	copy(e.Pod.Req[:], req)
	return e
}

func of(round int, l ...api.Entry) api.State { return api.State{Round: round, Pods: l} }

func same(a, b api.State) bool {
	return a.Round == b.Round && a.On == b.On && slices.Equal(a.Pods, b.Pods)
}

func many(n int) []api.Entry {
	var l []api.Entry
	for i := range n {
		l = append(l, entry(fmt.Sprintf("p%02d", i), 1+i%3, i))
	}
	return l
}

func rightStates() []api.State {
	l := []api.State{
		{}, of(api.MaxRound), of(3, entry("a", 1)), of(3, entry("a", 3), entry("ab", 2), entry("b", 1)), of(0, many(64)...), of(1<<33+5, entry("-", 2), entry("0", 2), entry("a", 2)),
	}
	for i := range 8 {
		l = append(l, api.State{Round: 258, On: [3]bool{i&1 != 0, i&2 != 0, i&4 != 0}, Pods: many(i % 3)})
	}
	long := strings.Repeat("z", 24)
	last := of(9, entry(long, 3, api.Most, api.Most, api.Most))
	last.Pods[0].Pod.Image, last.Pods[0].Pod.Critical = long, true
	return append(l, last)
}

// lay makes a state's bytes by hand.
func lay(round uint64, flags, count byte, l ...api.Entry) []byte {
	b := append(binary.BigEndian.AppendUint64(nil, round), flags, count)
	for _, e := range l {
		body, _ := pod.Put(e.Pod)
		b = append(append(b, byte(e.Phase)), body...)
	}
	return b
}

// P24.1.
func TestRight(t *testing.T) {
	for i, s := range rightStates() {
		if !state.Right(s) {
			t.Error(i, "is right")
		}
	}
	bad := entry("a", 1)
	bad.Pod.Size = -1
	for i, s := range []api.State{
		of(-1), of(api.MaxRound + 1), of(-api.Most - 1), of(api.Most), of(3, entry("a", 0)), of(3, entry("a", 4)), of(3, entry("a", -1)), of(3, entry("A", 1)), of(3, entry("", 1)), of(3, bad),
		of(3, entry("a", 1), entry("a", 2)), of(3, entry("b", 1), entry("a", 1)), of(3, entry("a", 1), entry("c", 1), entry("b", 1)), of(0, many(65)...), of(0, append(many(2), api.Entry{})...),
		of(3, entry("ab", 1), entry("a", 1)), of(3, entry("a", 257)),
	} {
		if state.Right(s) {
			t.Error(i, "isn't right")
		}
		if b, err := state.Put(s); len(b) != 0 || err != api.ErrArg {
			t.Error(i, b, err)
		}
	}
}

// P24.1, P24.3.
func TestPutAndGet(t *testing.T) {
	for i, s := range rightStates() {
		flags := byte(0)
		for signal, on := range s.On {
			if on {
				flags += []byte{1, 2, 4}[signal]
			}
		}
		want := lay(uint64(s.Round), flags, byte(len(s.Pods)), s.Pods...)
		b, err := state.Put(s)
		if err != api.OK || !bytes.Equal(b, want) || len(b) >= api.MaxBody {
			t.Errorf("%d: %x, %d", i, b, err)
		}
		if got, err := state.Get(b); !same(got, s) || err != api.OK {
			t.Error(i, got, err)
		}
		for n := range b {
			if got, err := state.Get(b[:n]); !same(got, api.State{}) || err != api.ErrForm {
				t.Fatal(i, n, got, err)
			}
		}
		for _, more := range []string{"\x00", "\x01", "a", string(b)} {
			if got, err := state.Get(append(bytes.Clone(b), more...)); !same(got, api.State{}) || err != api.ErrForm {
				t.Error(i, got, err)
			}
		}
	}
	if b, _ := state.Put(api.State{Round: 3, On: [3]bool{false, true, false}}); !bytes.Equal(b, []byte{0, 0, 0, 0, 0, 0, 0, 3, 2, 0}) {
		t.Error("the chapter's example", b)
	}
}

// P24.1.
func TestGetOfOthers(t *testing.T) {
	a, b := entry("a", 1), entry("b", 2)
	wrongPod := lay(3, 0, 1, a)
	wrongPod[len(wrongPod)-1] = 2
	for i, x := range [][]byte{
		nil, {0}, lay(api.MaxRound+1, 0, 0), lay(1<<63, 0, 0), lay(1<<64-1, 0, 0), lay(3, 8, 0), lay(3, 16, 0), lay(3, 255, 0), lay(3, 128, 0), lay(3, 0, 1), lay(3, 0, 0, a), lay(3, 0, 2, a),
		lay(3, 0, 1, a, b), lay(3, 0, 2, b, a), lay(3, 0, 2, a, a), lay(3, 0, 1, entry("a", 0)), lay(3, 0, 1, entry("a", 4)), lay(3, 0, 1, entry("a", 255)), wrongPod,
		lay(3, 0, 65, many(65)...), lay(3, 0, 255, many(64)...), lay(3, 0, 255),
	} {
		if got, err := state.Get(x); !same(got, api.State{}) || err != api.ErrForm {
			t.Error(i, got, err)
		}
	}
}

// P24.3: what is got of turned bytes is put as it stood.
func TestGetIsPut(t *testing.T) {
	random := rand.New(rand.NewSource(24))
	got := 0
	for range 20000 {
		b, _ := state.Put(rightStates()[random.Intn(14)])
		b[random.Intn(len(b))] ^= 1 << random.Intn(8)
		s, err := state.Get(b)
		if err != api.OK {
			continue
		}
		got++
		if again, err := state.Put(s); err != api.OK || !bytes.Equal(again, b) {
			t.Fatalf("%x, %v, %x", b, s, again)
		}
	}
	if got < 1000 {
		t.Error(got)
	}
}

// P24.2.
func TestFits(t *testing.T) {
	c := api.Config{Capacity: [3]int{100, 100, 100}, Allocatable: [3]int{10, 20, 30}, Period: 1, MaxAge: 1}
	for i, x := range []struct {
		s    api.State
		want bool
	}{
		{api.State{}, true}, {of(1, entry("a", 1, 10, 20, 30)), true}, {of(1, entry("a", 1, 11, 20, 30)), false}, {of(1, entry("a", 1, 5, 5, 15), entry("b", 3, 5, 15, 15)), true},
		{of(1, entry("a", 1, 5, 5, 15), entry("b", 3, 5, 15, 16)), false}, {of(1, entry("a", 1, 5, 5, 15), entry("b", 2, 5, 16, 15)), false},
	} {
		if state.Fits(x.s, c) != x.want {
			t.Error(i)
		}
	}
	c.Allocatable[api.Cpu] = api.Most
	if state.Fits(of(1, entry("a", 1, api.Most)), c) || !state.Fits(of(1, entry("a", 1, api.Most-1)), c) {
		t.Error("at Most")
	}
}

// P24.2.
func TestFind(t *testing.T) {
	s := of(3, entry("a", 3), entry("ab", 2), entry("c", 1))
	for i, id := range []string{"a", "ab", "c"} {
		if at, ok := state.Find(s, id); at != i || !ok {
			t.Error(id, at, ok)
		}
	}
	for _, id := range []string{"", "-", "aa", "b", "d", "abc"} {
		if at, ok := state.Find(s, id); at != 0 || ok {
			t.Error(id, at, ok)
		}
	}
	if at, ok := state.Find(api.State{}, "a"); at != 0 || ok {
		t.Error(at, ok)
	}
	if at, ok := state.Find(of(0, many(64)...), "p63"); at != 63 || !ok {
		t.Error(at, ok)
	}
}

// P24.2, P24.3.
func TestWithAndWithout(t *testing.T) {
	s := of(3, entry("b", 1), entry("d", 2), entry("f", 3))
	s.On = [3]bool{true, false, true}
	for i, id := range []string{"a", "b", "c", "d", "e", "f", "g"} {
		e := entry(id, 2, 9, 9, 9)
		with := state.With(s, e)
		want := slices.Insert(slices.DeleteFunc(slices.Clone(s.Pods), func(o api.Entry) bool { return o.Pod.Id == id }), (i+i%2)/2-i%2, e)
		if with.Round != 3 || with.On != s.On || !slices.Equal(with.Pods, want) || !state.Right(with) {
			t.Error(id, with)
		}
		without := state.Without(with, id)
		left := slices.DeleteFunc(slices.Clone(s.Pods), func(o api.Entry) bool { return o.Pod.Id == id })
		if without.Round != 3 || without.On != s.On || !slices.Equal(without.Pods, left) || !state.Right(without) {
			t.Error(id, without)
		}
		if again := state.Without(without, id); !same(again, without) {
			t.Error(id, again)
		}
	}
	if got := state.With(api.State{}, entry("a", 1)); !same(got, of(0, entry("a", 1))) {
		t.Error(got)
	}
	if got := state.Without(of(5, entry("a", 1)), "a"); !same(got, of(5)) {
		t.Error(got)
	}
	if got := state.With(of(0, many(64)...), entry("p05", 1)); !state.Right(got) || len(got.Pods) != 64 {
		t.Error("in its place")
	}
}

// P24.4.
func TestHandedInStays(t *testing.T) {
	l := append(make([]api.Entry, 0, 9), entry("b", 1), entry("d", 2))
	s := of(3, l...)
	want := of(3, entry("b", 1), entry("d", 2))
	for _, id := range []string{"a", "b", "c", "d", "e"} {
		for _, answer := range []api.State{state.With(s, entry(id, 3)), state.Without(s, id)} {
			for i := range answer.Pods {
				answer.Pods[i] = entry("z", 1)
			}
			_ = append(answer.Pods, entry("y", 1))
		}
	}
	if !reflect.DeepEqual(s, want) || l[:3][2] != (api.Entry{}) {
		t.Error(s)
	}
	b, _ := state.Put(s)
	again := bytes.Clone(b)
	got, _ := state.Get(b)
	got.Pods[0].Phase = 9
	if !bytes.Equal(b, again) || !reflect.DeepEqual(s, want) {
		t.Error(b, s)
	}
}
