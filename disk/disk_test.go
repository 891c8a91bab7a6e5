package disk_test

import (
	"bytes"
	"fmt"
	"math/rand"
	"slices"
	"strings"
	"testing"

	"bilge/api"
	"bilge/disk"
)

func write(name, b string) api.Op { return api.Op{Kind: api.OpWrite, Name: name, Bytes: []byte(b)} }
func rename(name, to string) api.Op {
	return api.Op{Kind: api.OpRename, Name: name, To: to}
}
func remove(name string) api.Op { return api.Op{Kind: api.OpRemove, Name: name} }

// tell is all files as they look.
func tell(d *disk.Disk) string {
	var l []string
	for _, name := range d.Names() {
		b, err := d.Read(name)
		l = append(l, fmt.Sprintf("%s=%s", name, b))
		if err != api.OK {
			l = append(l, fmt.Sprint("error ", err))
		}
	}
	return strings.Join(l, " ")
}

func do(t *testing.T, d *disk.Disk, l ...api.Op) {
	t.Helper()
	for _, o := range l {
		if err := d.Do(o); err != api.OK {
			t.Fatal(o, err)
		}
	}
}

// P10.1.
func TestNew(t *testing.T) {
	d := disk.New()
	if len(d.Names()) != 0 || d.Open() != 0 {
		t.Error(d.Names(), d.Open())
	}
	for _, name := range []string{"", "a", strings.Repeat("a", 33)} {
		if b, err := d.Read(name); len(b) != 0 || err != api.ErrNone {
			t.Error(name, b, err)
		}
	}
}

// P10.1: what is done, as it looks.
func TestDo(t *testing.T) {
	for i, x := range []struct {
		l    []api.Op
		want string
	}{
		{[]api.Op{write("b", "2"), write("a", "1")}, "a=1 b=2"}, {[]api.Op{write("a", "1"), write("a", "")}, "a="},
		{[]api.Op{write("a", "1"), write("a", "23")}, "a=23"}, {[]api.Op{write("a", "1"), remove("a")}, ""}, {[]api.Op{remove("a")}, ""},
		{[]api.Op{write("a", "1"), remove("b")}, "a=1"}, {[]api.Op{write("a", "1"), rename("a", "b")}, "b=1"},
		{[]api.Op{write("a", "1"), write("b", "2"), rename("a", "b")}, "b=1"}, {[]api.Op{write("a", "1"), rename("a", "a")}, "a=1"},
		{[]api.Op{write("a", "1"), rename("b", "a")}, "a=1"}, {[]api.Op{rename("b", "b")}, ""},
		{[]api.Op{write("a", "1"), rename("a", "b"), write("a", "3")}, "a=3 b=1"},
		{[]api.Op{write("a", "1"), remove("a"), rename("a", "b")}, ""}, {[]api.Op{write("a", "1"), rename("a", "b"), rename("b", "c")}, "c=1"},
		{[]api.Op{{Kind: api.OpRemove, Name: "a", To: "", Bytes: []byte("x")}}, ""},
		{[]api.Op{{Kind: api.OpWrite, Name: "a", To: strings.Repeat("x", 40)}}, "a="},
	} {
		d := disk.New()
		for j, o := range x.l {
			if d.Open() != j {
				t.Error(i, j, d.Open())
			}
			do(t, d, o)
		}
		if tell(d) != x.want || d.Open() != len(x.l) {
			t.Errorf("%d: %q, %d", i, tell(d), d.Open())
		}
		d.Sync()
		if tell(d) != x.want || d.Open() != 0 {
			t.Errorf("%d, synced: %q, %d", i, tell(d), d.Open())
		}
		d.Crash(nil)
		if tell(d) != x.want || d.Open() != 0 {
			t.Errorf("%d, synced, behind a crash: %q, %d", i, tell(d), d.Open())
		}
	}
}

// P10.1.
func TestDoOfWrongThings(t *testing.T) {
	long := strings.Repeat("n", 32)
	d := disk.New()
	do(t, d, write(long, "1"), rename(long, "\x00"), rename("\x00", strings.Repeat("é", 16)))
	before := tell(d)
	for i, o := range []api.Op{
		{}, {Kind: 4, Name: "a"}, {Kind: -1, Name: "a"}, {Kind: 0, Name: "a", To: "b"}, write("", "x"), write(long+"n", "x"), remove(""), remove(long + "n"),
		rename("", "b"), rename("b", ""), rename(long+"n", "b"), rename("b", long+"n"), rename("", ""),
	} {
		if err := d.Do(o); err != api.ErrArg || d.Open() != 3 || tell(d) != before {
			t.Error(i, err, d.Open(), tell(d))
		}
	}
}

// P10.2.
func TestCrash(t *testing.T) {
	for i, x := range []struct {
		l    []api.Op
		keep []int
		want string
	}{
		{[]api.Op{write("a", "1")}, []int{0}, "z=9"}, {[]api.Op{write("a", "1")}, nil, "z=9"}, {[]api.Op{write("a", "123")}, []int{1}, "a= z=9"},
		{[]api.Op{write("a", "123")}, []int{2}, "a=1 z=9"}, {[]api.Op{write("a", "123")}, []int{3}, "a=12 z=9"},
		{[]api.Op{write("a", "123")}, []int{4}, "a=123 z=9"}, {[]api.Op{write("a", "123")}, []int{api.Most}, "a=123 z=9"},
		{[]api.Op{write("a", "123")}, []int{-1}, "a=123 z=9"}, {[]api.Op{write("a", "123")}, []int{-api.Most - 1}, "a=123 z=9"},
		{[]api.Op{write("a", "")}, []int{1}, "a= z=9"}, {[]api.Op{write("z", "123")}, []int{1}, "z="},
		{[]api.Op{write("a", "1"), write("b", "2")}, []int{0, 9}, "b=2 z=9"}, {[]api.Op{write("a", "1"), write("b", "2")}, []int{9}, "a=1 z=9"},
		{[]api.Op{rename("z", "y")}, []int{1}, "y=9"}, {[]api.Op{rename("z", "y")}, []int{0}, "z=9"}, {[]api.Op{rename("z", "y")}, []int{-5}, "y=9"},
		{[]api.Op{write("a", "1"), rename("a", "z")}, []int{0, 1}, "z=9"}, {[]api.Op{write("a", "12"), rename("a", "z")}, []int{2, 1}, "z=1"},
		{[]api.Op{remove("z"), rename("z", "y")}, []int{0, 1}, "y=9"}, {[]api.Op{remove("z"), write("a", "1")}, []int{1, 0}, ""},
		{[]api.Op{remove("z")}, []int{2, 3, 4}, ""}, {[]api.Op{rename("z", "z")}, []int{1}, "z=9"}, {nil, []int{1, 2}, "z=9"},
		{[]api.Op{rename("q", "z"), write("q", "1")}, []int{7, 7}, "q=1 z=9"},
	} {
		d := disk.New()
		do(t, d, write("z", "9"))
		d.Sync()
		do(t, d, x.l...)
		d.Crash(x.keep)
		if tell(d) != x.want || d.Open() != 0 {
			t.Errorf("%d: %q, %d", i, tell(d), d.Open())
		}
		d.Crash([]int{1, 1, 1})
		if tell(d) != x.want {
			t.Errorf("%d, once more: %q", i, tell(d))
		}
	}
}

// P10.3, and P10.1 and P10.2 against a plain model.
func TestModel(t *testing.T) {
	random := rand.New(rand.NewSource(10))
	names := []string{"a", "b", "c"}
	for range 400 {
		d := disk.New()
		lasting, done := map[string]string{}, []api.Op{}
		for range 30 {
			switch n := random.Intn(10); {
			case n < 7:
				o := api.Op{Kind: 1 + random.Intn(3), Name: names[random.Intn(3)], To: names[random.Intn(3)], Bytes: []byte("12345")[:random.Intn(6)]}
				do(t, d, o)
				done = append(done, o)
			case n == 7:
				d.Sync()
				lasting, done = model(lasting, done, nil), nil
			default:
				keep := make([]int, random.Intn(6))
				for i := range keep {
					keep[i] = random.Intn(8) - 1
				}
				all := d.Copy()
				all.Crash(slices.Repeat([]int{100}, len(done)))
				if tell(all) != tell(d) {
					t.Fatal("a crash that keeps all isn't like a sync")
				}
				if keep == nil {
					keep = []int{}
				}
				d.Crash(keep)
				lasting, done = model(lasting, done, keep), nil
			}
			if want := told(model(lasting, done, nil)); tell(d) != want || d.Open() != len(done) {
				t.Fatalf("%q, %d, not %q, %d", tell(d), d.Open(), want, len(done))
			}
		}
	}
}

// model does what a crash leaves; without numbers all.
func model(lasting map[string]string, done []api.Op, keep []int) map[string]string {
	files := map[string]string{}
	for name, b := range lasting {
		files[name] = b
	}
	for i, o := range done {
		n := 1000
		if keep != nil {
			n = 0
			if i < len(keep) {
				n = keep[i]
			}
		}
		if n == 0 {
			continue
		}
		b, there := files[o.Name]
		switch o.Kind {
		case api.OpWrite:
			files[o.Name] = string(o.Bytes)
			if n >= 1 && n <= len(o.Bytes) {
				files[o.Name] = string(o.Bytes[:n-1])
			}
		case api.OpRename:
			if there {
				delete(files, o.Name)
				files[o.To] = b
			}
		case api.OpRemove:
			delete(files, o.Name)
		}
	}
	return files
}

func told(files map[string]string) string {
	var l []string
	for name, b := range files {
		l = append(l, name+"="+b)
	}
	slices.Sort(l)
	return strings.Join(l, " ")
}

// P10.1.
func TestCopy(t *testing.T) {
	d := disk.New()
	do(t, d, write("a", "1"))
	d.Sync()
	do(t, d, write("b", "22"), remove("a"))
	c := d.Copy()
	if tell(c) != "b=22" || c.Open() != 2 {
		t.Error(tell(c), c.Open())
	}
	do(t, c, write("x", "1"))
	c.Sync()
	if tell(d) != "b=22" || d.Open() != 2 {
		t.Error(tell(d), d.Open())
	}
	e := d.Copy()
	d.Crash(nil)
	e.Crash([]int{2})
	if tell(d) != "a=1" || tell(e) != "a=1 b=2" || tell(c) != "b=22 x=1" {
		t.Error(tell(d), tell(e), tell(c))
	}
}

// P10.4.
func TestHandedInStays(t *testing.T) {
	d := disk.New()
	b := []byte("abc")
	do(t, d, api.Op{Kind: api.OpWrite, Name: "a", Bytes: b})
	b[0] = 'x'
	first, _ := d.Read("a")
	first[1] = 'y'
	d.Sync()
	second, _ := d.Read("a")
	second[2] = 'z'
	d.Names()[0] = "q"
	if tell(d) != "a=abc" || !bytes.Equal(b, []byte("xbc")) {
		t.Error(tell(d), b)
	}
	do(t, d, write("b", "1"))
	keep := []int{2, 3}
	d.Crash(keep)
	if !slices.Equal(keep, []int{2, 3}) {
		t.Error(keep)
	}
}
