package script_test

import (
	"fmt"
	"math"
	"math/rand"
	"slices"
	"strings"
	"testing"

	"bilge/api"
	"bilge/script"
)

var (
	nan   = math.NaN()
	inf   = math.Inf(1)
	minus = math.Copysign(0, -1)
)

// alike tells whether the numbers are one, all NaN too.
func alike(a, b float64) bool {
	return a != a && b != b || math.Float64bits(a) == math.Float64bits(b)
}

// tell is an act, whole: alike just of acts that are alike.
func tell(l ...api.Act) string {
	var all []string
	for _, a := range l {
		s := fmt.Sprint(a.Do, a.Pod, a.Id, a.Raw.Time, a.Well, a.Steps, a.Keep)
		amounts := func(l [3]float64) {
			for _, f := range l {
				if f != f {
					f = math.NaN()
				}
				s += fmt.Sprintf(" %x", math.Float64bits(f))
			}
		}
		amounts(a.Raw.Avail)
		for _, u := range a.Raw.Use {
			s += " " + u.Id
			amounts(u.Amount)
		}
		all = append(all, s)
	}
	return strings.Join(all, "\n")
}

// P26.1.
func TestWord(t *testing.T) {
	for _, s := range []string{"a", "!", "~", "a#", "\"", "-0", "A.b/c", strings.Repeat("x", 60)} {
		if !script.Word(s) {
			t.Errorf("%q is a word", s)
		}
	}
	for _, s := range []string{"", "#", "#a", " ", "a b", "a\t", "\n", "\x7f", "é", "a\x00", "a ", strings.Repeat("x", 61)} {
		if script.Word(s) {
			t.Errorf("%q is no word", s)
		}
	}
	for c := range 256 {
		if script.Word(string([]byte{'a', byte(c)})) != (c >= 33 && c <= 126) {
			t.Error(c)
		}
	}
}

// P26.1.
func TestAmount(t *testing.T) {
	for s, want := range map[string]float64{
		"nan": nan, "inf": inf, "-inf": -inf, "-0": minus, "0": 0, "12k": 12000, "007": 7, "1Ki": 1024, "9007199254740992": 1 << 53, "8192Ti": 1 << 53, "9007199254740991": 1<<53 - 1, "000": 0,
	} {
		if got, ok := script.Amount(s); !alike(got, want) || !ok {
			t.Errorf("Amount(%q) = %v, %v", s, got, ok)
		}
	}
	for _, s := range []string{
		"", "NaN", "Inf", "+inf", "-nan", "--0", "-00", "-1", "+0", "1.5", "1e3", "0x1", "9007199254740993", "8193Ti", "9008T", "99999999999999999999", "k", "1K", " 1", "1 ", "-0k", "infinity",
	} {
		if got, ok := script.Amount(s); !alike(got, 0) || ok {
			t.Errorf("Amount(%q) = %v, %v", s, got, ok)
		}
	}
}

// P26.1.
func TestShow(t *testing.T) {
	for _, x := range []struct {
		f    float64
		want string
	}{
		{nan, "nan"}, {math.Float64frombits(0xfff0000000000001), "nan"}, {inf, "inf"}, {-inf, "-inf"}, {minus, "-0"}, {0, "0"}, {1, "1"}, {12000, "12k"}, {1024, "1Ki"}, {1 << 53, "8192Ti"},
		{1<<53 - 1, "9007199254740991"}, {1e15, "1000T"}, {1025, "1025"},
	} {
		got, ok := script.Show(x.f)
		if got != x.want || !ok {
			t.Errorf("Show(%v) = %q, %v", x.f, got, ok)
		}
		if again, ok := script.Amount(got); !ok || !alike(again, x.f) {
			t.Errorf("%v, %q: %v", x.f, got, again)
		}
	}
	for _, f := range []float64{
		-1, -0.5, 0.5, 1.5, 1<<53 + 2, 1 << 54, 1 << 63, 1 << 64, 1e300, -1e300, math.MaxFloat64, math.SmallestNonzeroFloat64, -math.SmallestNonzeroFloat64, math.Nextafter(1, 2), math.Nextafter(1, 0),
		-1 << 63, 1<<51 + 0.5, 1<<53 + 1<<12,
	} {
		if got, ok := script.Show(f); got != "" || ok {
			t.Errorf("Show(%v) = %q, %v", f, got, ok)
		}
	}
}

func pod() api.Pod {
	return api.Pod{Id: "a", Image: "web", Size: 7000, Prio: -5, Critical: true, Req: [3]int{1, 1024, 3}, Lim: [3]int{4, 5, 0}}
}

func use(id string, a, b, c float64) api.Usage {
	return api.Usage{Id: id, Amount: [3]float64{a, b, c}}
}

// texts are lines as they are printed, with their acts.
func texts() map[string]api.Act {
	bare := pod()
	bare.Lim = [3]int{}
	plain := api.Pod{Id: "!", Image: "~#", Prio: 1 << 40}
	return map[string]api.Act{
		"admit a web 7k -5 critical 1 1Ki 3 4 5 0": {Do: api.ActAdmit, Pod: pod()},
		"admit a web 7k -5 critical 1 1Ki 3":       {Do: api.ActAdmit, Pod: bare},
		"admit ! ~# 0 1099511627776 plain 0 0 0":   {Do: api.ActAdmit, Pod: plain},
		"delete a":                                 {Do: api.ActDelete, Id: "a"},
		"delete tick":                              {Do: api.ActDelete, Id: "tick"},
		"tick":                                     {Do: api.ActTick},
		"sample 3 inf -0 12k":                      {Do: api.ActSample, Raw: api.Raw{Time: 3, Avail: [3]float64{inf, minus, 12000}}},
		"sample -7 nan -inf 0 b 1 2 3 a nan inf -inf B! 0 0 -0": {Do: api.ActSample, Raw: api.Raw{Time: -7, Avail: [3]float64{nan, -inf, 0}, Use: []api.Usage{use("b", 1, 2, 3), use("a", nan, inf, -inf), use("B!", 0, 0, minus)}}},
		"sample 0 0 0 0 a 0 0 0 a 0 0 0":                        {Do: api.ActSample, Raw: api.Raw{Use: []api.Usage{use("a", 0, 0, 0), use("a", 0, 0, 0)}}},
		"feed":                                                  {Do: api.ActFeed},
		"feed ok bad bad ok":                                    {Do: api.ActFeed, Well: []bool{true, false, false, true}},
		"crash 3":                                               {Do: api.ActCrash, Steps: 3},
		"crash -1099511627776 0 -1 1099511627776":               {Do: api.ActCrash, Steps: -1 << 40, Keep: []int{0, -1, 1 << 40}},
		"crash 0 0 0":                                           {Do: api.ActCrash, Keep: []int{0, 0}},
	}
}

// P26.2, P26.3.
func TestReadAndPrint(t *testing.T) {
	whole, all := "", []api.Act(nil)
	for s, want := range texts() {
		got, line, err := script.Read([]byte(s))
		if tell(got...) != tell(want) || line != 0 || err != api.OK {
			t.Errorf("%q: %v, %d, %d", s, got, line, err)
		}
		if !script.Right(want) {
			t.Errorf("%q is right", s)
		}
		if got, err := script.Print([]api.Act{want}); got != s+"\n" || err != api.OK {
			t.Errorf("%q is printed %q, %d", s, got, err)
		}
		whole, all = whole+s+"\n", append(all, want)
	}
	if got, line, err := script.Read([]byte(whole)); tell(got...) != tell(all...) || line != 0 || err != api.OK {
		t.Error(got, line, err)
	}
	if got, err := script.Print(all); got != whole || err != api.OK {
		t.Error(got, err)
	}
	if got, err := script.Print(nil); got != "" || err != api.OK {
		t.Error(got, err)
	}
	for _, s := range []string{"", "\n\n", "# tick\n  #\n"} {
		if got, line, err := script.Read([]byte(s)); len(got) != 0 || line != 0 || err != api.OK {
			t.Errorf("%q: %v, %d, %d", s, got, line, err)
		}
	}
	for s, want := range map[string]string{
		"\n\t tick # now\r\n": "tick\n", "admit a b 0010 0 plain 1 1 1 0 0 00": "admit a b 10 0 plain 1 1 1\n", "sample 0 1000 1024 00": "sample 0 1k 1Ki 0\n",
		"admit a b 99999999999999999999 0 plain 1 1 1 2000 0 1024": "admit a b 9223372036854775807 0 plain 1 1 1 2k 0 1Ki\n",
		"tick\n\n feed ok #\n": "tick\nfeed ok\n",
	} {
		got, _, err := script.Read([]byte(s))
		if again, _ := script.Print(got); again != want || err != api.OK {
			t.Errorf("%q: %q, %d", s, again, err)
		}
	}
}

// P26.2: lines that are none.
func TestReadOfWrongLines(t *testing.T) {
	long := strings.Repeat("x", 61)
	for _, s := range []string{
		"x", "Tick", "tick 1", "tick tick", "1", "delete", "delete a b", "delete " + long,
		"admit", "admit a", "admit a web 7 0 plain 1 1", "admit a web 7 0 plain 1 1 1 1", "admit a web 7 0 plain 1 1 1 1 1", "admit a web 7 0 plain 1 1 1 1 1 1 1", "admit a web 7 0 Plain 1 1 1",
		"admit a web 7 0 1 1 1", "admit a web x 0 plain 1 1 1", "admit a web -1 0 plain 1 1 1", "admit a web 7 00 plain 1 1 1", "admit a web 7 +1 plain 1 1 1", "admit a web 7 -0 plain 1 1 1",
		"admit a web 7 1k plain 1 1 1", "admit a web 7 1099511627777 plain 1 1 1", "admit a web 7 -1099511627777 plain 1 1 1", "admit a web 7 01 plain 1 1 1", "admit a web 7 0 plain -1 1 1",
		"admit a web 7 0 plain 1 x 1", "admit a web 7 0 plain 1 1 1 1 1 -1", "admit " + long + " web 7 0 plain 1 1 1", "admit a " + long + " 7 0 plain 1 1 1", "admit a web 7 0 critical plain 1 1 1",
		"admit a web 7 99999999999999999999 plain 1 1 1", "admit a web 7 inf plain 1 1 1", "admit a web 7 0 plain nan 1 1",
		"sample", "sample 1", "sample 1 1 1", "sample 1 1 1 1 a", "sample 1 1 1 1 a 1 1", "sample 1 1 1 1 a 1 1 1 b", "sample 1 1 1 -1", "sample 1 1 1 1.5", "sample 1k 1 1 1", "sample 1 9007199254740993 1 1",
		"sample 1 1 1 1 a 1 1 NaN", "sample 1 1 1 1 " + long + " 1 1 1", "sample nan 1 1 1", "sample -0 1 1 1", "sample 1 1 1 1 1", "sample 1 1 1 1 a 1 1 1 1",
		"feed 1", "feed ok OK", "feed ok true", "feed bad x", "crash", "crash x", "crash 1 x", "crash 1k", "crash 01", "crash -0", "crash 1 1099511627777", "crash 1 0 1 +1", "crash -", "crash 1.0",
	} {
		for lines, text := range []string{s, "tick\n" + s + "\nx\n", "\n# x\n" + s + "\ntick"} {
			if got, line, err := script.Read([]byte(text)); len(got) != 0 || line != lines+1 || err != api.ErrText {
				t.Errorf("%q: %v, %d, %d", text, got, line, err)
			}
		}
	}
	for _, s := range []string{"\x00", "tick\x01", "x\n\xff", "tick" + strings.Repeat("\n", 65536)} {
		if got, line, err := script.Read([]byte(s)); len(got) != 0 || line != 0 || err != api.ErrText {
			t.Errorf("%v, %d, %d", got, line, err)
		}
	}
	if got, _, err := script.Read([]byte("delete " + long[:60])); err != api.OK || len(got) != 1 {
		t.Error("the longest word")
	}
}

// P26.3: acts that have no line.
func TestWrongActs(t *testing.T) {
	with := func(change func(a *api.Act)) api.Act {
		a := api.Act{Do: api.ActAdmit, Pod: pod()}
		change(&a)
		return a
	}
	raw := func(change func(r *api.Raw)) api.Act {
		a := api.Act{Do: api.ActSample, Raw: api.Raw{Use: []api.Usage{use("a", 0, 0, 0)}}}
		change(&a.Raw)
		return a
	}
	wrong := []api.Act{
		{}, {Do: 7}, {Do: -1}, {Do: api.ActAdmit}, {Do: api.ActDelete},
		with(func(a *api.Act) { a.Pod.Id = "" }), with(func(a *api.Act) { a.Pod.Id = "a b" }), with(func(a *api.Act) { a.Pod.Image = "#" }), with(func(a *api.Act) { a.Pod.Image = strings.Repeat("x", 61) }),
		with(func(a *api.Act) { a.Pod.Size = -1 }), with(func(a *api.Act) { a.Pod.Prio = 1<<40 + 1 }), with(func(a *api.Act) { a.Pod.Prio = -1<<40 - 1 }), with(func(a *api.Act) { a.Pod.Req[0] = -1 }),
		with(func(a *api.Act) { a.Pod.Req[1] = -1 }), with(func(a *api.Act) { a.Pod.Req[2] = -1 }), with(func(a *api.Act) { a.Pod.Lim[0] = -1 }), with(func(a *api.Act) { a.Pod.Lim[1] = -1 }), with(func(a *api.Act) { a.Pod.Lim[2] = -1 }),
		{Do: api.ActDelete, Id: "#a"}, {Do: api.ActDelete, Id: "a\n"}, {Do: api.ActDelete, Id: strings.Repeat("x", 61)},
		raw(func(r *api.Raw) { r.Time = 1<<40 + 1 }), raw(func(r *api.Raw) { r.Time = -1<<40 - 1 }), raw(func(r *api.Raw) { r.Avail[0] = -1 }), raw(func(r *api.Raw) { r.Avail[2] = 0.5 }), raw(func(r *api.Raw) { r.Avail[1] = 1 << 54 }),
		raw(func(r *api.Raw) { r.Use[0].Id = "" }), raw(func(r *api.Raw) { r.Use[0].Amount[2] = 1.5 }), raw(func(r *api.Raw) { r.Use = append(r.Use, use("b c", 0, 0, 0)) }),
		{Do: api.ActCrash, Steps: 1<<40 + 1}, {Do: api.ActCrash, Steps: -1<<40 - 1}, {Do: api.ActCrash, Keep: []int{0, 1<<40 + 1}}, {Do: api.ActCrash, Keep: []int{math.MinInt}},
	}
	// Each other field has to be zero.
	spoil := map[int][]func(a *api.Act){
		api.ActAdmit:  {func(a *api.Act) { a.Pod.Size++ }, func(a *api.Act) { a.Pod.Critical = !a.Pod.Critical }, func(a *api.Act) { a.Pod.Lim[2]++ }},
		api.ActDelete: {func(a *api.Act) { a.Id = "b" }},
		api.ActSample: {func(a *api.Act) { a.Raw.Time++ }, func(a *api.Act) { a.Raw.Avail[1] = minus }, func(a *api.Act) { a.Raw.Avail[2] = nan }, func(a *api.Act) { a.Raw.Use = []api.Usage{{Id: "a"}} }, func(a *api.Act) { a.Raw.Avail[0] = inf }},
		api.ActFeed:   {func(a *api.Act) { a.Well = []bool{false} }},
		api.ActCrash:  {func(a *api.Act) { a.Steps = 1 }, func(a *api.Act) { a.Keep = []int{0} }},
	}
	for s, a := range texts() {
		for do, changes := range spoil {
			for _, change := range changes {
				b := a
				change(&b)
				if do != a.Do {
					wrong = append(wrong, b)
				} else if !script.Right(b) {
					t.Errorf("%q, %v is right", s, b)
				}
			}
		}
	}
	for _, a := range wrong {
		if script.Right(a) {
			t.Error("isn't right:", tell(a))
		}
		if got, err := script.Print([]api.Act{{Do: api.ActTick}, a, {Do: api.ActTick}}); got != "" || err != api.ErrArg {
			t.Errorf("%q, %d: %s", got, err, tell(a))
		}
	}
	empty := api.Act{Do: api.ActTick, Raw: api.Raw{Use: []api.Usage{}}, Well: []bool{}, Keep: []int{}}
	if !script.Right(empty) {
		t.Error("no elements are none")
	}
}

// someAct is an act at will, of which most are right.
func someAct(random *rand.Rand) api.Act {
	word := func() string {
		return []string{"a", "b-c", "!x", "ok", "tick", "#", "p q", ""}[min(random.Intn(30), 7)%8]
	}
	number := func() int {
		return []int{0, 1, -1, 1 << 40, -1 << 40, 77, 1000, 1 << 20, 1<<40 + 1}[random.Intn(30)%9]
	}
	quantity := func() int { return random.Int() >> random.Intn(64) }
	amount := func() float64 {
		return []float64{0, minus, inf, -inf, nan, 5, 1000, 1 << 53, float64(random.Intn(1 << 30)), 0.5, -1}[random.Intn(40)%11]
	}
	amounts := func() [3]float64 { return [3]float64{amount(), amount(), amount()} }
	a := api.Act{Do: 1 + random.Intn(6)}
	switch a.Do {
	case api.ActAdmit:
		a.Pod = api.Pod{Id: word(), Image: word(), Size: quantity(), Prio: number(), Critical: random.Intn(2) == 0, Req: [3]int{quantity(), 0, quantity()}}
		if random.Intn(2) == 0 {
			a.Pod.Lim = [3]int{0, 0, quantity()}
		}
	case api.ActDelete:
		a.Id = word()
	case api.ActSample:
		a.Raw = api.Raw{Time: number(), Avail: amounts()}
		for range random.Intn(3) {
			a.Raw.Use = append(a.Raw.Use, api.Usage{Id: word(), Amount: amounts()})
		}
	case api.ActFeed:
		for range random.Intn(4) {
			a.Well = append(a.Well, random.Intn(2) == 0)
		}
	case api.ActCrash:
		a.Steps = number()
		for range random.Intn(4) {
			a.Keep = append(a.Keep, number())
		}
	}
	return a
}

// P26.4: what is printed is read as it was.
func TestReadAgain(t *testing.T) {
	random := rand.New(rand.NewSource(26))
	printed := 0
	for range 5000 {
		var l []api.Act
		for range random.Intn(4) {
			l = append(l, someAct(random))
		}
		s, err := script.Print(l)
		if right := !slices.ContainsFunc(l, func(a api.Act) bool { return !script.Right(a) }); right != (err == api.OK) {
			t.Fatal(tell(l...), err)
		}
		if err != api.OK {
			continue
		}
		printed++
		if got, line, err := script.Read([]byte(s)); tell(got...) != tell(l...) || line != 0 || err != api.OK {
			t.Fatalf("%q: %s, %d, %d, not %s", s, tell(got...), line, err, tell(l...))
		}
	}
	if printed < 1000 {
		t.Error(printed)
	}
}

// P26.4: what is read of whatever text is right.
func TestReadIsRight(t *testing.T) {
	random := rand.New(rand.NewSource(260))
	pieces := []string{"admit", "delete", "tick", "sample", "feed", "crash", "a", "0", "1", "-1", "7k", "plain", "critical", "ok", "bad", "nan", "inf", "-0", "\n", "\n", "\n", "#"}
	read := 0
	for range 30000 {
		var l []string
		for range random.Intn(9) {
			l = append(l, pieces[random.Intn(len(pieces))])
		}
		if random.Intn(2) == 0 {
			l = append([]string{"admit", "a", "b", "1", "0", "plain"}, l...)
		}
		acts, line, err := script.Read([]byte(strings.Join(l, " ")))
		if err != api.OK {
			if len(acts) > 0 || line == 0 {
				t.Fatal(l, acts, line)
			}
			continue
		}
		read += len(acts)
		for _, a := range acts {
			if !script.Right(a) {
				t.Fatal(l, tell(a))
			}
		}
		s, _ := script.Print(acts)
		if again, _, _ := script.Read([]byte(s)); tell(again...) != tell(acts...) {
			t.Fatal(l, s)
		}
	}
	if read < 300 {
		t.Error(read)
	}
}

// P26.5.
func TestHandedInStays(t *testing.T) {
	b := []byte("feed ok bad\ncrash 1 2\nsample 1 1 1 1 a 1 1 1\ndelete x")
	text := string(b)
	l, _, _ := script.Read(b)
	if string(b) != text {
		t.Error("the text was changed")
	}
	clear(b)
	want := tell(l...)
	script.Right(l[2])
	script.Print(l)
	if tell(l...) != want || l[3].Id != "x" || l[2].Raw.Use[0].Id != "a" {
		t.Error(tell(l...))
	}
}
