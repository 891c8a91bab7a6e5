package ckpt_test

import (
	"bytes"
	"slices"
	"testing"

	"bilge/api"
	"bilge/ckpt"
	"bilge/disk"
	"bilge/frame"
)

// lay writes a file, lasting.
func lay(t *testing.T, d *disk.Disk, name string, b []byte) {
	t.Helper()
	if err := d.Do(api.Op{Kind: api.OpWrite, Name: name, Bytes: b}); err != api.OK {
		t.Fatal(err)
	}
	d.Sync()
}

func framed(t *testing.T, version int, body string) []byte {
	t.Helper()
	b, err := frame.Put(version, []byte(body))
	if err != api.OK {
		t.Fatal(err)
	}
	return b
}

func open(t *testing.T, d *disk.Disk, version int, body string, want api.Errno) *ckpt.Store {
	t.Helper()
	s, b, err := ckpt.Open(d)
	if err != want || string(b) != body || s == nil || s.Version() != version {
		t.Fatalf("%q, %d: %v", b, err, s)
	}
	return s
}

// P11.1.
func TestOpen(t *testing.T) {
	d := disk.New()
	open(t, d, 0, "", api.ErrNone)
	if d.Open() != 0 || len(d.Names()) != 0 {
		t.Error("the disk was changed")
	}
	lay(t, d, "main", framed(t, 7, "abc"))
	lay(t, d, "other", []byte("x"))
	open(t, d, 7, "abc", api.OK)
	if d.Open() != 0 || !slices.Equal(d.Names(), []string{"main", "other"}) {
		t.Error("the disk was changed")
	}
	lay(t, d, "main", framed(t, 0, ""))
	open(t, d, 0, "", api.OK)
	for _, b := range [][]byte{nil, []byte("abc"), framed(t, 7, "abc")[1:], append(framed(t, 7, "abc"), 0)} {
		lay(t, d, "main", b)
		if s, body, err := ckpt.Open(d); s != nil || len(body) != 0 || err != api.ErrForm {
			t.Error(s, body, err)
		}
	}
	if !slices.Equal(d.Names(), []string{"main", "other"}) {
		t.Error(d.Names())
	}
}

// P11.1: a file that isn't lasting yet counts as it looks, and isn't synced without need.
func TestOpenAsItLooks(t *testing.T) {
	d := disk.New()
	d.Do(api.Op{Kind: api.OpWrite, Name: "main", Bytes: framed(t, 3, "abc")})
	open(t, d, 3, "abc", api.OK)
	if d.Open() != 1 {
		t.Error("synced")
	}
}

// P11.1: the file temp goes.
func TestOpenRemovesTemp(t *testing.T) {
	for _, x := range []struct {
		main []byte
		body string
		want api.Errno
	}{{nil, "", api.ErrNone}, {framed(t, 7, "abc"), "abc", api.OK}, {[]byte("abc"), "", api.ErrForm}} {
		d := disk.New()
		if x.main != nil {
			lay(t, d, "main", x.main)
		}
		d.Do(api.Op{Kind: api.OpWrite, Name: "temp", Bytes: framed(t, 8, "new")})
		_, body, err := ckpt.Open(d)
		if err != x.want || string(body) != x.body || d.Open() != 0 {
			t.Error(body, err, d.Open())
		}
		d.Crash(nil)
		if _, err := d.Read("temp"); err != api.ErrNone {
			t.Error("temp is there")
		}
		if b, _ := d.Read("main"); !bytes.Equal(b, x.main) {
			t.Error("main isn't as it was")
		}
	}
}

// P11.2.
func TestSave(t *testing.T) {
	d := disk.New()
	s := open(t, d, 0, "", api.ErrNone)
	for i, body := range []string{"one", "", "three"} {
		if err := s.Save([]byte(body)); err != api.OK || s.Version() != i+1 || d.Open() != 0 {
			t.Error(i, err, s.Version())
		}
		if b, _ := d.Read("main"); !bytes.Equal(b, framed(t, i+1, body)) || !slices.Equal(d.Names(), []string{"main"}) {
			t.Error(i, d.Names())
		}
		open(t, d.Copy(), i+1, body, api.OK)
	}
	s = open(t, d, 3, "three", api.OK)
	if s.Save([]byte("four")) != api.OK || s.Version() != 4 {
		t.Error(s.Version())
	}
	if s.Save(make([]byte, api.MaxBody)) != api.OK {
		t.Error("the longest body")
	}
}

// P11.2.
func TestSaveOfWrongThings(t *testing.T) {
	d := disk.New()
	s := open(t, d, 0, "", api.ErrNone)
	long := make([]byte, api.MaxBody+1)
	if s.Save(long) != api.ErrArg || s.Part(long, 2) != api.ErrArg || s.Version() != 0 || len(d.Names()) != 0 || d.Open() != 0 {
		t.Error("a body that is too long")
	}
	lay(t, d, "main", framed(t, 1<<32-2, "abc"))
	s = open(t, d, 1<<32-2, "abc", api.OK)
	if s.Save([]byte("last")) != api.OK || s.Version() != 1<<32-1 {
		t.Error("the last version")
	}
	if s.Save([]byte("more")) != api.ErrArg || s.Part([]byte("more"), 3) != api.ErrArg || s.Version() != 1<<32-1 || d.Open() != 0 || len(d.Names()) != 1 {
		t.Error("behind the last version")
	}
	open(t, d, 1<<32-1, "last", api.OK)
}

// P11.2: each step does its part.
func TestPart(t *testing.T) {
	if ckpt.Steps() != 4 {
		t.Error(ckpt.Steps())
	}
	for _, x := range []struct {
		steps, open int
		temp, main  string
	}{
		{-1 << 63, 0, "", "old"}, {-1, 0, "", "old"}, {0, 0, "", "old"}, {1, 1, "new", "old"}, {2, 0, "new", "old"}, {3, 1, "", "new"}, {4, 0, "", "new"},
		{5, 0, "", "new"}, {1<<63 - 1, 0, "", "new"},
	} {
		d := disk.New()
		s := open(t, d, 0, "", api.ErrNone)
		s.Save([]byte("old"))
		if err := s.Part([]byte("new"), x.steps); err != api.OK || d.Open() != x.open {
			t.Error(x.steps, err, d.Open())
		}
		want := 1
		if x.steps >= 4 {
			want = 2
		}
		if s.Version() != want {
			t.Error(x.steps, s.Version())
		}
		if b, err := d.Read("temp"); (err == api.OK) != (x.temp != "") || err == api.OK && !bytes.Equal(b, framed(t, 2, x.temp)) {
			t.Error(x.steps, "temp", b, err)
		}
		version := 1
		if x.main == "new" {
			version = 2
		}
		if b, _ := d.Read("main"); !bytes.Equal(b, framed(t, version, x.main)) {
			t.Error(x.steps, "main", b)
		}
		if s.Save([]byte("next")) != api.OK || s.Version() != want+1 {
			t.Error("saved behind a part", s.Version())
		}
		open(t, d, want+1, "next", api.OK)
	}
}

// P11.3: behind all beginnings of a save, and all crashes.
func TestCrashes(t *testing.T) {
	for steps := range 5 {
		for first := -1; first < 30; first++ {
			for second := range 3 {
				for _, old := range []string{"", "old"} {
					d := disk.New()
					s, _, _ := ckpt.Open(d)
					want, version := api.ErrNone, 0
					if old != "" {
						s.Save([]byte(old))
						want, version = api.OK, 1
					}
					s.Part([]byte("new one"), steps)
					d.Crash([]int{first, second})
					again, body, err := ckpt.Open(d)
					isNew := string(body) == "new one" && err == api.OK && again.Version() == version+1
					isOld := string(body) == old && err == want && again.Version() == version
					if !(isNew && steps >= 3 || isOld && steps <= 3) || slices.Contains(d.Names(), "temp") || d.Open() != 0 {
						t.Fatal(steps, first, second, body, err)
					}
					if again.Save([]byte("next")) != api.OK {
						t.Fatal("saved behind a crash")
					}
					d.Crash(nil)
					if _, body, err := ckpt.Open(d); string(body) != "next" || err != api.OK {
						t.Fatal(body, err)
					}
				}
			}
		}
	}
}

// P11.4.
func TestHandedInStays(t *testing.T) {
	d := disk.New()
	s, _, _ := ckpt.Open(d)
	body := append(make([]byte, 0, 99), "abc"...)
	s.Save(body)
	if string(body) != "abc" {
		t.Error(body)
	}
	body[0] = 'x'
	_, first, _ := ckpt.Open(d)
	first[1] = 'y'
	open(t, d, 1, "abc", api.OK)
}
