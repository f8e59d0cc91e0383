package word

import (
	"math"
	"slices"
	"strconv"
	"strings"
	"testing"
)

// P1.1

func TestRightOfEveryByte(t *testing.T) {
	const good = "abcdefghijklmnopqrstuvwxyz0123456789"
	for b := range 256 {
		one := string([]byte{byte(b)})
		want := strings.Contains(good, one)
		for _, s := range []string{one, "a" + one, one + "z", "abc" + one + "0123"} {
			if Right(s) != want {
				t.Errorf("Right(%q) = %v", s, !want)
			}
		}
	}
}

func TestRightOfEveryLength(t *testing.T) {
	for n := range 20 {
		for _, c := range []string{"a", "z", "0", "9"} {
			s := strings.Repeat(c, n)
			if want := 1 <= n && n <= 8; Right(s) != want {
				t.Errorf("Right(%q) = %v", s, !want)
			}
		}
	}
	if Right(strings.Repeat("a", 1<<20)) {
		t.Error("a text of 2^20 letters is no word")
	}
}

func TestRightOfWrongTexts(t *testing.T) {
	for _, s := range []string{
		" ", "a b", " a", "a ", "-", "-5", "a-b", "a_b", "A", "aB", "Z",
		"é", "aé", "\u0430", "\u0663", "\uff41", "\U0001d41a", "\ufffd",
		"\xff", "a\xff", "\xc3", "a\x00", "\x00", "a\n", "\ta",
		"éééé", "ééééa",
	} {
		if Right(s) {
			t.Errorf("Right(%q) = true", s)
		}
	}
}

func TestText(t *testing.T) {
	for n, want := range map[int]string{
		0: "0", 5: "5", -5: "-5", 10: "10", -10: "-10", 100: "100", -907: "-907",
		1000000: "1000000", -1000000: "-1000000", 1000001: "1000001", -1000001: "-1000001",
		math.MaxInt: "9223372036854775807", math.MinInt: "-9223372036854775808",
	} {
		if s := Text(n); s != want {
			t.Errorf("Text(%d) = %q, not %q", n, s, want)
		}
	}
}

func TestNumOfEveryNumberWithin(t *testing.T) {
	for want := -1000000; want <= 1000000; want++ {
		if n, ok := Num(Text(want)); n != want || !ok {
			t.Fatalf("Num(Text(%d)) = %d, %v", want, n, ok)
		}
	}
}

func TestNumOfTextsWrittenOut(t *testing.T) {
	for s, want := range map[string]int{
		"0": 0, "1": 1, "-1": -1, "9": 9, "10": 10, "-10": -10, "907": 907,
		"999999": 999999, "1000000": 1000000, "-999999": -999999, "-1000000": -1000000,
	} {
		if n, ok := Num(s); n != want || !ok {
			t.Errorf("Num(%q) = %d, %v", s, n, ok)
		}
	}
}

func TestNumBeyond(t *testing.T) {
	for _, n := range []int{1000001, 1000010, 10000000, 1 << 31, 1 << 32, math.MaxInt} {
		for _, s := range []string{strconv.Itoa(n), strconv.Itoa(-n)} {
			expectNoNum(t, s)
		}
	}
	for _, s := range []string{
		"-9223372036854775808", "9223372036854775808", "-9223372036854775809",
		"18446744073709551616", "18446744073709551621", "-18446744073709551611",
		"99999999999999999999", "1" + strings.Repeat("0", 1<<20-1),
	} {
		expectNoNum(t, s)
	}
}

func TestNumOfWrongTexts(t *testing.T) {
	for _, s := range []string{
		"", "-", "+", "--", "--5", "-+5", "+5", "+0", "-0", "00", "-00", "05", "-05", "0000005",
		"5-", "5 ", " 5", "- 5", "5 6", " ", "5\n", "5\x00", "\x005",
		"x", "5x", "x5", "a", "0x5", "0b1", "0o7", "1_000", "1,000", "1.0", "1e3", "NaN", "Inf",
		"\u0665", "\uff15", "\u22125", "5\xff", "\xff", "é",
		strings.Repeat("0", 1<<20), "-" + strings.Repeat("0", 30) + "5",
	} {
		expectNoNum(t, s)
	}
}

func TestNumOfEveryShortText(t *testing.T) {
	// The definition, spelt out the other way round: a list of all texts there are.
	texts := map[string]int{}
	for n := -99; n <= 999; n++ {
		texts[strconv.Itoa(n)] = n
	}
	for _, s := range textsOf("-+0159 x_", 3) {
		want, is := texts[s]
		if n, ok := Num(s); n != want || ok != is {
			t.Errorf("Num(%q) = %d, %v", s, n, ok)
		}
	}
}

func expectNoNum(t *testing.T, s string) {
	t.Helper()
	if n, ok := Num(s); n != 0 || ok {
		t.Errorf("Num(%.40q) = %d, %v", s, n, ok)
	}
}

// textsOf gives every text of at most most of the letters.
func textsOf(letters string, most int) []string {
	all := []string{""}
	longest := all
	for range most {
		var longer []string
		for _, s := range longest {
			for _, c := range []byte(letters) {
				longer = append(longer, s+string([]byte{c}))
			}
		}
		all = append(all, longer...)
		longest = longer
	}
	return all
}

// P1.2

func TestSplit(t *testing.T) {
	for _, c := range []struct {
		s    string
		want []string
	}{
		{" add  5 x", []string{"add", "5", "x"}},
		{"", nil},
		{" ", nil},
		{"     ", nil},
		{"a", []string{"a"}},
		{" a", []string{"a"}},
		{"a ", []string{"a"}},
		{"   a   ", []string{"a"}},
		{"a b", []string{"a", "b"}},
		{"b    a", []string{"b", "a"}},
		{"a a a", []string{"a", "a", "a"}},
		{" \t a\nb \r\v\f ", []string{"\t", "a\nb", "\r\v\f"}},
		{"a\u00a0b \u2003 \u3000c", []string{"a\u00a0b", "\u2003", "\u3000c"}},
		{"é \xff \xe2 x\x00 \xc3", []string{"é", "\xff", "\xe2", "x\x00", "\xc3"}},
		{"\xf0\x9f \x98\x80", []string{"\xf0\x9f", "\x98\x80"}},
		{"-5 A,B", []string{"-5", "A,B"}},
	} {
		if l := Split(c.s); !slices.Equal(l, c.want) {
			t.Errorf("Split(%q) = %q", c.s, l)
		}
	}
}

func TestSplitAtTheByte32Alone(t *testing.T) {
	for b := range 256 {
		s := "a" + string([]byte{byte(b)}) + "b"
		want := []string{s}
		if b == 32 {
			want = []string{"a", "b"}
		}
		if l := Split(s); !slices.Equal(l, want) {
			t.Errorf("Split(%q) = %q", s, l)
		}
	}
}

func TestSplitOfEveryShortText(t *testing.T) {
	for _, s := range textsOf(" a\xc3\xa9\xe2", 6) {
		var want []string
		for _, part := range strings.Split(s, " ") {
			if part != "" {
				want = append(want, part)
			}
		}
		if l := Split(s); !slices.Equal(l, want) {
			t.Errorf("Split(%q) = %q, not %q", s, l, want)
		}
	}
}

func TestSplitOfLongTexts(t *testing.T) {
	const half = 1 << 19
	if l := Split(strings.Repeat(" ", 2*half)); len(l) != 0 {
		t.Error(len(l))
	}
	if l := Split(strings.Repeat("a", 2*half)); len(l) != 1 || len(l[0]) != 2*half {
		t.Error(len(l))
	}
	l := Split(strings.Repeat("a ", half))
	if len(l) != half || slices.ContainsFunc(l, func(s string) bool { return s != "a" }) {
		t.Error(len(l))
	}
}

func TestJoin(t *testing.T) {
	for _, c := range []struct {
		l    []string
		want string
	}{
		{nil, ""},
		{[]string{}, ""},
		{[]string{""}, ""},
		{[]string{"", ""}, " "},
		{[]string{"", "", ""}, "  "},
		{[]string{"a"}, "a"},
		{[]string{"a", "b"}, "a b"},
		{[]string{"b", "a", "b"}, "b a b"},
		{[]string{"a", "", "b"}, "a  b"},
		{[]string{"", "a"}, " a"},
		{[]string{"a", ""}, "a "},
		{[]string{" ", " a "}, "   a "},
		{[]string{"é", "\xff", "\x00\n"}, "é \xff \x00\n"},
	} {
		if s := Join(c.l...); s != c.want {
			t.Errorf("Join(%q) = %q, not %q", c.l, s, c.want)
		}
	}
	if Join() != "" || Join("add", "5", "x") != "add 5 x" {
		t.Error("texts that are handed in one by one")
	}
}

func TestSplitUndoesJoin(t *testing.T) {
	l := []string{"add", "-5", "\t", "\xff", "é", "add"}
	if back := Split(Join(l...)); !slices.Equal(back, l) {
		t.Errorf("%q", back)
	}
}

// R4 and R6

func TestArgumentsStayAndAnswersAreFree(t *testing.T) {
	room := []string{"a", "b", "behind"}
	if s := Join(room[:2]...); s != "a b" || !slices.Equal(room, []string{"a", "b", "behind"}) {
		t.Errorf("Join told %q and left %q", s, room)
	}
	first := Split("a b c")
	clear(first)
	_ = append(first[:1], "x")
	if l := Split("a b c"); !slices.Equal(l, []string{"a", "b", "c"}) {
		t.Errorf("the second Split told %q", l)
	}
}
