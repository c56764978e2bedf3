package num_test

import (
	"math/big"
	"strconv"
	"testing"

	"felucca/api"
	"felucca/num"
)

// edges are numbers near which a reckoning goes wrong first.
func edges() []int {
	var l []int
	for _, n := range []int{0, 1, 2, 7, 10, 99, 1 << 20, 1 << 31, 1 << 40, 1 << 62} {
		l = append(l, n-1, n, n+1, -n, -n-1)
	}
	return append(l, api.MaxInt, api.MaxInt-1, api.MinInt, api.MinInt+1)
}

func TestCeilP1_1(t *testing.T) {
	for _, x := range []struct{ a, b, want int }{
		{7, 3, 3}, {6, 3, 2}, {0, 1, 0}, {0, 9, 0}, {1, 9, 1}, {9, 9, 1}, {10, 9, 2},
		{api.MaxInt, 1, api.MaxInt}, {api.MaxInt, 2, 1 << 62}, {api.MaxInt - 1, api.MaxInt, 1}, {api.MaxInt, api.MaxInt, 1},
	} {
		if n, ok := num.Ceil(x.a, x.b); n != x.want || !ok {
			t.Errorf("Ceil(%d, %d) = %d, %v", x.a, x.b, n, ok)
		}
	}
	for _, x := range [][2]int{{-1, 1}, {1, 0}, {0, 0}, {1, -1}, {-6, -3}, {api.MinInt, -1}, {api.MinInt, api.MinInt}, {api.MaxInt, api.MinInt}} {
		if n, ok := num.Ceil(x[0], x[1]); n != 0 || ok {
			t.Errorf("Ceil(%d, %d) = %d, %v", x[0], x[1], n, ok)
		}
	}
}

func TestCeilIsTheLeastP1_1(t *testing.T) {
	fold := func(n, b int) *big.Int { return new(big.Int).Mul(big.NewInt(int64(n)), big.NewInt(int64(b))) }
	for _, a := range edges() {
		for _, b := range edges() {
			n, ok := num.Ceil(a, b)
			if ok != (a >= 0 && b >= 1) {
				t.Fatal(a, b, ok)
			}
			if !ok {
				continue
			}
			want := big.NewInt(int64(a))
			if fold(n, b).Cmp(want) < 0 || n > 0 && fold(n-1, b).Cmp(want) >= 0 {
				t.Error(a, b, n)
			}
		}
	}
}

func TestInAndClampP1_2(t *testing.T) {
	for _, x := range []struct {
		n, low, high, clamp int
		in                  bool
	}{
		{3, 1, 5, 3, true}, {1, 1, 5, 1, true}, {5, 1, 5, 5, true}, {0, 1, 5, 1, false}, {6, 1, 5, 5, false},
		{4, 4, 4, 4, true}, {3, 4, 4, 4, false}, {5, 4, 4, 4, false},
		{3, 5, 1, 5, false}, {5, 5, 1, 1, false}, {9, 5, 1, 1, false}, {1, 5, 1, 5, false},
		{api.MinInt, 0, api.MaxInt, 0, false}, {api.MaxInt, api.MinInt, 0, 0, false}, {-7, -9, -5, -7, true},
		{api.MinInt, api.MinInt, api.MaxInt, api.MinInt, true}, {api.MaxInt, api.MinInt, api.MaxInt, api.MaxInt, true},
	} {
		if got := num.In(x.n, x.low, x.high); got != x.in {
			t.Error("In", x, got)
		}
		if got := num.Clamp(x.n, x.low, x.high); got != x.clamp {
			t.Error("Clamp", x, got)
		}
	}
}

func TestTextP1_3(t *testing.T) {
	for n, want := range map[int]string{
		0: "0", 7: "7", 10: "10", 100: "100", -1: "-1", -305: "-305",
		api.MaxInt: "9223372036854775807", api.MinInt: "-9223372036854775808",
	} {
		if got := num.Text(n); got != want {
			t.Errorf("Text(%d) = %q", n, got)
		}
	}
}

func TestParseP1_3(t *testing.T) {
	for _, x := range []struct {
		s          string
		high, want int
	}{
		{"0", 0, 0}, {"7", 7, 7}, {"10", 99, 10}, {"42", 42, 42}, {"9223372036854775807", api.MaxInt, api.MaxInt},
		{"9223372036854775799", api.MaxInt, 9223372036854775799},
	} {
		if n, ok := num.Parse(x.s, x.high); n != x.want || !ok {
			t.Errorf("Parse(%q, %d) = %d, %v", x.s, x.high, n, ok)
		}
	}
	for _, s := range []string{
		"", "007", "00", "01", "-0", "-1", "+1", " 1", "1 ", "1\n", "1_0", "0x1", "1e1", "1.0", "a", "4a", "a4", "/", ":", "1\x00",
		"\u0661", "1\u0661", "\xff", "1\x80", "9223372036854775808", "9223372036854775810", "18446744073709551617", "92233720368547758070",
		"99999999999999999999999999999999",
	} {
		if n, ok := num.Parse(s, api.MaxInt); n != 0 || ok {
			t.Errorf("Parse(%q) = %d, %v", s, n, ok)
		}
	}
	for _, x := range []struct {
		s    string
		high int
	}{{"43", 42}, {"1", 0}, {"0", -1}, {"0", api.MinInt}, {"5", -5}, {"9223372036854775807", api.MaxInt - 1}} {
		if n, ok := num.Parse(x.s, x.high); n != 0 || ok {
			t.Errorf("Parse(%q, %d) = %d, %v", x.s, x.high, n, ok)
		}
	}
}

func TestTextsAndNumbersP1_4(t *testing.T) {
	for _, n := range edges() {
		s := num.Text(n)
		if s != strconv.Itoa(n) {
			t.Errorf("Text(%d) = %q", n, s)
		}
		m, ok := num.Parse(s, api.MaxInt)
		if n >= 0 && (m != n || !ok) || n < 0 && (m != 0 || ok) {
			t.Errorf("Parse(Text(%d)) = %d, %v", n, m, ok)
		}
		if m, ok := num.Parse(s, n); n >= 0 && (m != n || !ok) {
			t.Errorf("Parse(Text(%d), %d) = %d, %v", n, n, m, ok)
		}
	}
}

func TestQuotientsP1_4(t *testing.T) {
	for _, a := range edges() {
		for _, b := range edges() {
			if n, ok := num.Ceil(a, b); ok && n != a/b && n != a/b+1 {
				t.Error(a, b, n)
			}
		}
	}
}
