package words_test

import (
	"slices"
	"strings"
	"testing"

	"felucca/words"
)

func TestLinesP2_1(t *testing.T) {
	for _, x := range []struct {
		s    string
		want []string
	}{
		{"", nil}, {"\n", []string{""}}, {"\n\n", []string{"", ""}}, {"a", []string{"a"}}, {"a\n", []string{"a"}},
		{"a\nb", []string{"a", "b"}}, {"a\nb\n", []string{"a", "b"}}, {"a\n\nb", []string{"a", "", "b"}},
		{"a\n\n", []string{"a", ""}}, {"\na", []string{"", "a"}}, {"a\r\nb\r", []string{"a\r", "b\r"}},
		{" \n# x \n", []string{" ", "# x "}}, {"\xff\n\x00\n\u2028", []string{"\xff", "\x00", "\u2028"}},
	} {
		if got := words.Lines(x.s); !slices.Equal(got, x.want) {
			t.Errorf("Lines(%q) = %q", x.s, got)
		}
	}
}

func TestWordsP2_2(t *testing.T) {
	for _, x := range []struct {
		s    string
		want []string
	}{
		{"", nil}, {" \t\r ", nil}, {"#", nil}, {"# a b", nil}, {"  # a", nil}, {"a", []string{"a"}},
		{"a  contact # x", []string{"a", "contact"}}, {"\ta\rb c\r", []string{"a", "b", "c"}},
		{"a#b c", []string{"a"}}, {"a b#", []string{"a", "b"}}, {"a # b # c", []string{"a"}}, {"##a", nil},
		{"a\nb c", []string{"a\nb", "c"}}, {"a\vb\fc\u00a0d\u0085e", []string{"a\vb\fc\u00a0d\u0085e"}},
		{"\xff\xfe a\x00b \x80#", []string{"\xff\xfe", "a\x00b", "\x80"}},
		{"\u00e9\u4e16 \U0001f600", []string{"\u00e9\u4e16", "\U0001f600"}},
	} {
		if got := words.Words(x.s); !slices.Equal(got, x.want) {
			t.Errorf("Words(%q) = %q", x.s, got)
		}
	}
}

func TestLineP2_2(t *testing.T) {
	for _, x := range []struct {
		l    []string
		want string
	}{
		{nil, "\n"}, {[]string{""}, "\n"}, {[]string{"a"}, "a\n"}, {[]string{"a", "b", "c"}, "a b c\n"},
		{[]string{"", ""}, " \n"}, {[]string{"a ", "#", "\n"}, "a  # \n\n"},
	} {
		if got := words.Line(x.l...); got != x.want {
			t.Errorf("Line(%q) = %q", x.l, got)
		}
	}
}

func TestLineLeavesItsListP2_2(t *testing.T) {
	l := append(make([]string, 0, 4), "a", "b")
	words.Line(l...)
	if !slices.Equal(l[:4], []string{"a", "b", "", ""}) {
		t.Errorf("%q", l[:4])
	}
}

// TestEachByteP2_2 holds each byte to what the chapter says of blanks and #.
func TestEachByteP2_2(t *testing.T) {
	for b := range 256 {
		s := "x" + string([]byte{byte(b)}) + "y"
		want := []string{s}
		switch b {
		case 32, 9, 13:
			want = []string{"x", "y"}
		case '#':
			want = []string{"x"}
		}
		if got := words.Words(s); !slices.Equal(got, want) {
			t.Errorf("Words(%q) = %q", s, got)
		}
	}
}

func TestCutAsTheyWereP2_3(t *testing.T) {
	for _, l := range [][]string{nil, {"a"}, {"a", "b"}, {"\xff", "\u00e9", "\v", "007", "-"}, strings.Fields(strings.Repeat("word ", 999))} {
		lines := words.Lines(words.Line(l...))
		if len(lines) != 1 || !slices.Equal(words.Words(lines[0]), l) {
			t.Errorf("%q: %q", l, lines)
		}
	}
	both := words.Lines(words.Line("a", "b") + words.Line() + words.Line("c"))
	if !slices.Equal(both, []string{"a b", "", "c"}) {
		t.Errorf("%q", both)
	}
}
