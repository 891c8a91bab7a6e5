package pod_test

import (
	"bytes"
	"encoding/binary"
	"math/rand"
	"slices"
	"strings"
	"testing"

	"bilge/api"
	"bilge/pod"
)

func web() api.Pod {
	return api.Pod{Id: "a", Prio: 5, Critical: true, Req: [3]int{1, 2, 3}, Lim: [3]int{4, 2, 0}, Image: "web", Size: 7}
}

// with is the pod, changed.
func with(change func(p *api.Pod)) api.Pod {
	p := web()
	change(&p)
	return p
}

// P12.1.
func TestNamed(t *testing.T) {
	for _, s := range []string{"a", "z", "0", "9", "-", "a-b-0", "abcdefghijklmnopqrstuvwx", strings.Repeat("-", 24)} {
		if !pod.Named(s) {
			t.Errorf("%q is a name", s)
		}
	}
	for _, s := range []string{"", strings.Repeat("a", 25), "A", "a b", "a.b", "a_b", "é", "a\x00", "a/b", "a:b", "`", "{", "a\n", ",", "Z"} {
		if pod.Named(s) {
			t.Errorf("%q is no name", s)
		}
	}
	for c := range 256 {
		want := c == '-' || '0' <= c && c <= '9' || 'a' <= c && c <= 'z'
		if s := string([]byte{'a', byte(c)}); pod.Named(s) != want {
			t.Errorf("%q: %v", s, !want)
		}
	}
}

func rightPods() []api.Pod {
	return []api.Pod{
		web(), {Id: "a", Image: "b"}, with(func(p *api.Pod) { p.Prio = api.MaxPrio }), with(func(p *api.Pod) { p.Prio = -api.MaxPrio }),
		with(func(p *api.Pod) { p.Req = [3]int{api.Most, api.Most, api.Most}; p.Lim = p.Req; p.Size = api.Most }),
		with(func(p *api.Pod) { p.Lim = [3]int{} }), with(func(p *api.Pod) { p.Lim = p.Req }), with(func(p *api.Pod) { p.Critical = false }),
		with(func(p *api.Pod) { p.Id = strings.Repeat("x", 24); p.Image = strings.Repeat("9", 24) }),
		with(func(p *api.Pod) { p.Req = [3]int{}; p.Lim = [3]int{api.Most, 1, 1 << 40} }),
	}
}

func wrongPods() []api.Pod {
	return []api.Pod{
		{}, with(func(p *api.Pod) { p.Id = "" }), with(func(p *api.Pod) { p.Image = "" }), with(func(p *api.Pod) { p.Id = "A" }),
		with(func(p *api.Pod) { p.Image = strings.Repeat("a", 25) }), with(func(p *api.Pod) { p.Prio = api.MaxPrio + 1 }),
		with(func(p *api.Pod) { p.Prio = -api.MaxPrio - 1 }), with(func(p *api.Pod) { p.Prio = -api.Most - 1 }), with(func(p *api.Pod) { p.Prio = api.Most }),
		with(func(p *api.Pod) { p.Size = -1 }), with(func(p *api.Pod) { p.Req[0] = -1 }), with(func(p *api.Pod) { p.Req[2] = -1 }),
		with(func(p *api.Pod) { p.Lim[0] = -1 }), with(func(p *api.Pod) { p.Lim[1] = 1 }), with(func(p *api.Pod) { p.Lim[2] = 2 }),
		with(func(p *api.Pod) { p.Req[1] = -1; p.Lim[1] = 0 }), with(func(p *api.Pod) { p.Lim[2] = -1 }),
	}
}

// lay makes the bytes by hand, with any numbers.
func lay(id, image string, numbers [8]uint64, critical byte) []byte {
	b := append([]byte{byte(len(id))}, id...)
	b = append(append(b, byte(len(image))), image...)
	for _, n := range numbers {
		b = binary.BigEndian.AppendUint64(b, n)
	}
	return append(b, critical)
}

// P12.1, P12.3.
func TestPutAndCut(t *testing.T) {
	for i, p := range rightPods() {
		if !pod.Right(p) {
			t.Error(i, "is right")
		}
		critical := byte(0)
		if p.Critical {
			critical = 1
		}
		want := lay(p.Id, p.Image, [8]uint64{
			uint64(p.Prio + 1<<30), uint64(p.Size), uint64(p.Req[0]), uint64(p.Req[1]), uint64(p.Req[2]), uint64(p.Lim[0]), uint64(p.Lim[1]), uint64(p.Lim[2]),
		}, critical)
		b, err := pod.Put(p)
		if err != api.OK || !bytes.Equal(b, want) {
			t.Errorf("%d: %x, %d", i, b, err)
		}
		for _, rest := range [][]byte{nil, {0}, []byte("more"), want} {
			got, left, err := pod.Cut(append(bytes.Clone(want), rest...))
			if got != p || !bytes.Equal(left, rest) || err != api.OK {
				t.Errorf("%d: %v, %x, %d", i, got, left, err)
			}
		}
		for n := range want {
			if got, left, err := pod.Cut(want[:n]); got != (api.Pod{}) || len(left) != 0 || err != api.ErrForm {
				t.Errorf("%d, %d bytes: %v, %x, %d", i, n, got, left, err)
			}
		}
	}
	if b, _ := pod.Put(api.Pod{Id: "a", Image: "b"}); len(b) != 69 {
		t.Error("the chapter's example:", len(b))
	}
}

// P12.1.
func TestPutOfWrongPods(t *testing.T) {
	for i, p := range wrongPods() {
		if pod.Right(p) {
			t.Error(i, "isn't right")
		}
		if b, err := pod.Put(p); len(b) != 0 || err != api.ErrArg {
			t.Errorf("%d: %x, %d", i, b, err)
		}
	}
}

// P12.1.
func TestCutOfOthers(t *testing.T) {
	good := [8]uint64{1 << 30}
	at := func(i int, n uint64) [8]uint64 {
		l := good
		l[i] = n
		return l
	}
	wrong := [][]byte{
		nil, {}, {0}, lay("", "b", good, 0), lay("a", "", good, 0), lay("A", "b", good, 0), lay("a", "b c", good, 0), lay("a", "b", good, 2), lay("a", "b", good, 255),
		lay(strings.Repeat("a", 25), "b", good, 0), lay("a", strings.Repeat("a", 255), good, 1), lay("a", "b", at(0, 1<<31+1), 0), lay("a", "b", at(0, 1<<63), 0),
		lay("a", "b", at(0, 1<<64-1), 0), lay("a", "b", at(0, 1<<63+1<<30), 0), lay("a", "b", at(0, 1<<63-1), 0), {255, 'a'}, lay("a", "b", at(5, 1<<63), 1),
		lay("a", "b", [8]uint64{1 << 30, 0, 5, 0, 0, 4}, 0), lay("a", "b", [8]uint64{1 << 30, 0, 0, 0, 5, 0, 0, 4}, 0),
	}
	for i := 1; i < 8; i++ {
		wrong = append(wrong, lay("a", "b", at(i, 1<<63), 0), lay("a", "b", at(i, 1<<64-1), 0))
	}
	for i, b := range wrong {
		if p, left, err := pod.Cut(b); p != (api.Pod{}) || len(left) != 0 || err != api.ErrForm {
			t.Errorf("%d: %v, %x, %d", i, p, left, err)
		}
	}
	for i, l := range [][8]uint64{at(0, 0), at(0, 1<<31), at(1, 1<<63-1), {1, 2, 3, 4, 5, 0, 4, 6}} {
		b := lay("a", "b", l, 1)
		p, left, err := pod.Cut(append(bytes.Clone(b), 9))
		again, _ := pod.Put(p)
		if err != api.OK || !bytes.Equal(left, []byte{9}) || !bytes.Equal(again, b) || !p.Critical {
			t.Errorf("%d: %v, %x, %d", i, p, left, err)
		}
	}
}

// P12.3: what is cut of bytes that were turned at will is put as it stood.
func TestCutIsPut(t *testing.T) {
	random := rand.New(rand.NewSource(12))
	cut := 0
	for range 20000 {
		good, _ := pod.Put(rightPods()[random.Intn(len(rightPods()))])
		b := append(good, "tail"...)
		b[random.Intn(len(b))] ^= 1 << random.Intn(8)
		p, left, err := pod.Cut(b)
		if err != api.OK {
			continue
		}
		cut++
		again, err := pod.Put(p)
		if err != api.OK || !pod.Right(p) || !bytes.Equal(append(again, left...), b) {
			t.Fatalf("%x: %v, %x", b, p, left)
		}
	}
	if cut < 1000 {
		t.Error("too few were cut", cut)
	}
}

// P12.2.
func TestSums(t *testing.T) {
	ask := func(a, b, c int) api.Pod { return api.Pod{Id: "a", Image: "b", Req: [3]int{a, b, c}, Size: 99} }
	for i, x := range []struct {
		l    []api.Pod
		want [3]int
	}{
		{nil, [3]int{}}, {[]api.Pod{web()}, [3]int{1, 2, 3}}, {[]api.Pod{ask(1, 2, 3), ask(10, 20, 30), ask(0, 0, 1)}, [3]int{11, 22, 34}},
		{[]api.Pod{ask(api.Most, 1, 0), ask(1, api.Most-1, 0)}, [3]int{api.Most, api.Most, 0}},
		{[]api.Pod{ask(1<<62, 0, 0), ask(1<<62, 0, 0), ask(1<<62, 0, 0), ask(1<<62, 0, 0), ask(1, 0, 7)}, [3]int{api.Most, 0, 7}},
	} {
		if got := pod.Sums(x.l); got != x.want {
			t.Error(i, got)
		}
	}
}

// P12.4.
func TestHandedInStays(t *testing.T) {
	b, _ := pod.Put(web())
	b = append(b, "tail"...)
	again := bytes.Clone(b)
	_, left, _ := pod.Cut(b)
	left[0] = 'x'
	if !bytes.Equal(b, again) {
		t.Errorf("%x", b)
	}
	l := []api.Pod{web(), {Id: "b", Image: "c"}}
	pod.Sums(l)
	if !slices.Equal(l, []api.Pod{web(), {Id: "b", Image: "c"}}) {
		t.Error(l)
	}
}
