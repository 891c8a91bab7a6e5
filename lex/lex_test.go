package lex_test

import (
	"math/rand"
	"reflect"
	"slices"
	"strings"
	"testing"

	"bilge/api"
	"bilge/lex"
)

type row = []api.Field

// P4.1.
func TestLines(t *testing.T) {
	for _, x := range []struct {
		text string
		want []row
	}{
		{"", nil}, {"\n", nil}, {" \t\r\n\n  ", nil}, {"#", nil}, {"  # a\n#b", nil},
		{"a  b # c", []row{{{Text: "a", Line: 1, Col: 1}, {Text: "b", Line: 1, Col: 4}}}},
		{"a", []row{{{Text: "a", Line: 1, Col: 1}}}},
		{"a\n", []row{{{Text: "a", Line: 1, Col: 1}}}},
		{"\n\n a\tb\r\n", []row{{{Text: "a", Line: 3, Col: 2}, {Text: "b", Line: 3, Col: 4}}}},
		{"a#b #c d\ne", []row{{{Text: "a#b", Line: 1, Col: 1}}, {{Text: "e", Line: 2, Col: 1}}}},
		{"x #\ny", []row{{{Text: "x", Line: 1, Col: 1}}, {{Text: "y", Line: 2, Col: 1}}}},
		{"a\rb", []row{{{Text: "a", Line: 1, Col: 1}, {Text: "b", Line: 1, Col: 3}}}},
		{"ab cde\nf", []row{{{Text: "ab", Line: 1, Col: 1}, {Text: "cde", Line: 1, Col: 4}}, {{Text: "f", Line: 2, Col: 1}}}},
		{"!\"~", []row{{{Text: "!\"~", Line: 1, Col: 1}}}},
	} {
		got, err := lex.Lines([]byte(x.text))
		if err != api.OK || len(got) != len(x.want) || len(got) > 0 && !reflect.DeepEqual(got, x.want) {
			t.Errorf("Lines(%q) = %v, %d", x.text, got, err)
		}
	}
}

// P4.1: each byte, and the length.
func TestReadable(t *testing.T) {
	for c := range 256 {
		want := api.ErrText
		if c == 9 || c == 10 || c == 13 || c >= 32 && c <= 126 {
			want = api.OK
		}
		for _, text := range []string{"a" + string([]byte{byte(c)}) + "b", "# " + string([]byte{byte(c)}), string([]byte{byte(c)})} {
			got, err := lex.Lines([]byte(text))
			if err != want || err != api.OK && len(got) > 0 {
				t.Errorf("%q: %v, %d", text, got, err)
			}
		}
	}
	long := []byte(strings.Repeat("a", 65536))
	if l, err := lex.Lines(long); err != api.OK || len(l) != 1 || len(l[0][0].Text) != 65536 {
		t.Error("the longest text", err)
	}
	for _, text := range []string{strings.Repeat("a", 65537), strings.Repeat(" ", 65537), "# " + strings.Repeat("\n", 65536)} {
		if l, err := lex.Lines([]byte(text)); err != api.ErrText || len(l) > 0 {
			t.Error("a text that is too long", err)
		}
	}
}

// P4.2.
func TestJoin(t *testing.T) {
	for _, x := range []struct {
		l    []row
		want string
	}{
		{nil, ""}, {[]row{}, ""}, {[]row{{}}, "\n"}, {[]row{nil, {{Text: "a"}}}, "\na\n"},
		{[]row{{{Text: "a", Line: 7, Col: 9}, {Text: "bc"}, {Text: "d"}}, {{Text: "e"}}}, "a bc d\ne\n"},
	} {
		if got := lex.Join(x.l); got != x.want {
			t.Errorf("Join(%v) = %q", x.l, got)
		}
	}
}

// P4.3, on texts of few kinds of bytes.
func TestReadAgain(t *testing.T) {
	random := rand.New(rand.NewSource(4))
	for range 3000 {
		text := make([]byte, random.Intn(40))
		for i := range text {
			text[i] = "ab#  \t\r\n"[random.Intn(8)]
		}
		first, err := lex.Lines(text)
		if err != api.OK {
			t.Fatalf("%q: %d", text, err)
		}
		lines := strings.Split(string(text), "\n")
		for _, line := range first {
			for _, f := range line {
				if !strings.HasPrefix(lines[f.Line-1][f.Col-1:], f.Text) {
					t.Fatalf("%q: %v isn't at its place", text, f)
				}
			}
		}
		second, _ := lex.Lines([]byte(lex.Join(first)))
		if !slices.EqualFunc(first, second, func(a, b row) bool {
			return slices.EqualFunc(a, b, func(x, y api.Field) bool { return x.Text == y.Text })
		}) {
			t.Fatalf("%q: %v, then %v", text, first, second)
		}
		if want := plain(string(text)); lex.Join(first) != want {
			t.Fatalf("%q: %q, not %q", text, lex.Join(first), want)
		}
	}
}

// plain joins the fields of a text another way.
func plain(text string) string {
	all := ""
	for _, line := range strings.Split(text, "\n") {
		fields := strings.Fields(line)
		if i := slices.IndexFunc(fields, func(f string) bool { return f[0] == '#' }); i >= 0 {
			fields = fields[:i]
		}
		if len(fields) > 0 {
			all += strings.Join(fields, " ") + "\n"
		}
	}
	return all
}

// P4.4.
func TestHandedInStays(t *testing.T) {
	text := []byte("ab c\nd")
	first, _ := lex.Lines(text)
	second, _ := lex.Lines(text)
	if string(text) != "ab c\nd" {
		t.Error(text)
	}
	text[0] = 'x'
	first[0][1].Text = "y"
	_ = append(first[0], api.Field{Text: "z"})
	if first[0][0].Text != "ab" || second[0][1].Text != "c" || first[1][0].Text != "d" {
		t.Error(first, second)
	}
	lex.Join(second)
	if !reflect.DeepEqual(second, []row{{{Text: "ab", Line: 1, Col: 1}, {Text: "c", Line: 1, Col: 4}}, {{Text: "d", Line: 2, Col: 1}}}) {
		t.Error(second)
	}
}
