package image_test

import (
	"fmt"
	"math/rand"
	"slices"
	"sort"
	"testing"

	"bilge/api"
	"bilge/image"
)

type images = []api.Image

func one(name string, size, last int) api.Image {
	return api.Image{Name: name, Size: size, Last: last}
}

func three() images { return images{one("b", 5, 1), one("d", 7, 2), one("f", 9, 3)} }

func names(l images) string {
	s := ""
	for _, m := range l {
		s += m.Name
	}
	return s
}

// P15.1.
func TestPut(t *testing.T) {
	for _, x := range []struct {
		l    images
		name string
		want images
	}{
		{nil, "a", images{one("a", 4, 8)}}, {nil, "", images{one("", 4, 8)}},
		{three(), "a", images{one("a", 4, 8), one("b", 5, 1), one("d", 7, 2), one("f", 9, 3)}},
		{three(), "c", images{one("b", 5, 1), one("c", 4, 8), one("d", 7, 2), one("f", 9, 3)}},
		{three(), "g", images{one("b", 5, 1), one("d", 7, 2), one("f", 9, 3), one("g", 4, 8)}},
		{three(), "b", images{one("b", 5, 8), one("d", 7, 2), one("f", 9, 3)}}, {three(), "d", images{one("b", 5, 1), one("d", 7, 8), one("f", 9, 3)}},
		{three(), "f", images{one("b", 5, 1), one("d", 7, 2), one("f", 9, 8)}},
		{three(), "\xff", images{one("b", 5, 1), one("d", 7, 2), one("f", 9, 3), one("\xff", 4, 8)}},
		{three(), "bb", images{one("b", 5, 1), one("bb", 4, 8), one("d", 7, 2), one("f", 9, 3)}},
	} {
		if got := image.Put(x.l, x.name, 4, 8); !slices.Equal(got, x.want) {
			t.Errorf("%q: %v", x.name, got)
		}
	}
	if got := image.Put(images{one("a", 5, 9)}, "a", 7, 2); !slices.Equal(got, images{one("a", 5, 2)}) {
		t.Error("an earlier round", got)
	}
}

// P15.1.
func TestTouch(t *testing.T) {
	for i, x := range []struct {
		used []string
		want images
	}{
		{nil, three()}, {[]string{"a", "", "ff"}, three()}, {[]string{"d", "d"}, images{one("b", 5, 1), one("d", 7, 8), one("f", 9, 3)}},
		{[]string{"f", "x", "b"}, images{one("b", 5, 8), one("d", 7, 2), one("f", 9, 8)}},
	} {
		if got := image.Touch(three(), x.used, 8); !slices.Equal(got, x.want) {
			t.Error(i, got)
		}
	}
	if len(image.Touch(nil, []string{"a"}, 8)) != 0 {
		t.Error("of none")
	}
}

// P15.1.
func TestDropAndFind(t *testing.T) {
	for _, x := range []struct {
		name string
		want string
		m    api.Image
	}{{"b", "df", one("b", 5, 1)}, {"d", "bf", one("d", 7, 2)}, {"f", "bd", one("f", 9, 3)}} {
		if got, ok := image.Drop(three(), x.name); names(got) != x.want || !ok {
			t.Error(x.name, got, ok)
		}
		if got, ok := image.Find(three(), x.name); got != x.m || !ok {
			t.Error(x.name, got, ok)
		}
	}
	for _, name := range []string{"", "a", "c", "g", "bb", "B", "\xff"} {
		if got, ok := image.Drop(three(), name); !slices.Equal(got, three()) || ok {
			t.Error(name, got, ok)
		}
		if got, ok := image.Find(three(), name); got != (api.Image{}) || ok {
			t.Error(name, got, ok)
		}
	}
	if got, ok := image.Drop(nil, "a"); len(got) != 0 || ok {
		t.Error(got, ok)
	}
	if got, ok := image.Drop(images{one("", 1, 1)}, ""); len(got) != 0 || !ok {
		t.Error(got, ok)
	}
}

// P15.2.
func TestTotal(t *testing.T) {
	if image.Total(nil) != 0 || image.Total(three()) != 21 {
		t.Error("totals")
	}
	if image.Total(images{one("a", api.Most-1, 0), one("b", 1, 0)}) != api.Most || image.Total(images{one("a", api.Most, 0), one("b", api.Most, 0)}) != api.Most {
		t.Error("beyond Most")
	}
}

// P15.2.
func TestOrder(t *testing.T) {
	l := images{one("a", 5, 3), one("b", 9, 3), one("c", 1, 2), one("d", 9, 3), one("e", 9, 1), one("f", 9, 1), one("g", 100, 9)}
	for _, x := range []struct {
		used []string
		want string
	}{
		{nil, "efcbdag"}, {[]string{"e"}, "fcbdag"}, {[]string{"g", "c", "g", "x", ""}, "efbda"}, {[]string{"a", "b", "c", "d", "e", "f", "g"}, ""},
	} {
		got := image.Order(l, x.used)
		if names(got) != x.want {
			t.Error(x.used, names(got))
		}
		for _, m := range got {
			if !slices.Contains(l, m) {
				t.Error(m)
			}
		}
	}
	if got := image.Order(images{one("a", 5, 3), one("b", 9, 3)}, nil); names(got) != "ba" {
		t.Error("the chapter's example", got)
	}
	if len(image.Order(nil, []string{"a"})) != 0 {
		t.Error("of none")
	}
}

// P15.1 to P15.3, against a plain model.
func TestModel(t *testing.T) {
	random := rand.New(rand.NewSource(15))
	for range 300 {
		var l images
		model := map[string]api.Image{}
		for round := range 40 {
			name := fmt.Sprint(random.Intn(12))
			used := []string{fmt.Sprint(random.Intn(14)), fmt.Sprint(random.Intn(14)), name}
			switch random.Intn(4) {
			case 0:
				var ok bool
				_, there := model[name]
				if l, ok = image.Drop(l, name); ok != there {
					t.Fatal(name, ok)
				}
				delete(model, name)
			case 1:
				l = image.Touch(l, used, round)
				for _, u := range used {
					if m, there := model[u]; there {
						model[u] = one(u, m.Size, round)
					}
				}
			default:
				size := random.Intn(3)
				l = image.Put(l, name, size, round/4)
				if m, there := model[name]; there {
					size = m.Size
				}
				model[name] = one(name, size, round/4)
			}
			var want images
			for _, m := range model {
				want = append(want, m)
			}
			sort.Slice(want, func(i, j int) bool { return want[i].Name < want[j].Name })
			if !slices.Equal(l, want) {
				t.Fatal(l, want)
			}
			checkOrder(t, l, used)
		}
	}
}

// checkOrder holds the order against the words, and turns what is used.
func checkOrder(t *testing.T, l images, used []string) {
	t.Helper()
	got := image.Order(l, used)
	turned := slices.Concat(used, used)
	slices.Reverse(turned)
	if !slices.Equal(got, image.Order(l, turned)) {
		t.Fatal("the order of used matters")
	}
	left := 0
	for _, m := range l {
		if !slices.Contains(used, m.Name) {
			left++
		}
	}
	if left != len(got) {
		t.Fatal(got, left)
	}
	for i, m := range got {
		if slices.Contains(used, m.Name) {
			t.Fatal(m, "is used")
		}
		if i == 0 {
			continue
		}
		p := got[i-1]
		if !(p.Last < m.Last || p.Last == m.Last && (p.Size > m.Size || p.Size == m.Size && p.Name < m.Name)) {
			t.Fatal(p, m)
		}
	}
}

// P15.4.
func TestHandedInStays(t *testing.T) {
	l := append(make(images, 0, 10), three()...)
	used := []string{"f", "b"}
	answers := []images{image.Put(l, "a", 1, 9), image.Put(l, "b", 1, 9), image.Put(l, "g", 1, 9), image.Touch(l, used, 9), image.Order(l, nil), image.Order(l, used)}
	for _, name := range []string{"b", "d", "f", "x"} {
		left, _ := image.Drop(l, name)
		answers = append(answers, left)
	}
	for _, answer := range answers {
		for i := range answer {
			answer[i] = one("z", 0, 0)
		}
		_ = append(answer, one("y", 0, 0))
	}
	if !slices.Equal(l, three()) || !slices.Equal(used, []string{"f", "b"}) {
		t.Error(l, used)
	}
	if full := l[:4]; full[3] != (api.Image{}) {
		t.Error("written behind the list", full)
	}
}
