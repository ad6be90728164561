package num

import (
	"bytes"
	"encoding/hex"
	"fmt"
	"math"
	"strings"
	"testing"
	"unicode/utf8"

	"clavier/api"
)

// P1.1: decimal figures, without noughts ahead; nothing below 0.
func TestTextIsDecimalFigures(t *testing.T) {
	for _, c := range []struct {
		n    int
		want string
	}{
		{0, "0"}, {1, "1"}, {9, "9"}, {10, "10"}, {40, "40"}, {99, "99"}, {100, "100"}, {1000000, "1000000"},
		{65535, "65535"}, {65536, "65536"}, {1114110, "1114110"}, {1114111, "1114111"}, {1114112, "1114112"},
		{math.MaxInt32, "2147483647"}, {math.MaxInt, fmt.Sprint(math.MaxInt)},
		{-1, ""}, {-9, ""}, {-10, ""}, {-1114111, ""}, {math.MinInt32, ""}, {-math.MaxInt, ""}, {math.MinInt, ""},
	} {
		if s := Text(c.n); s != c.want {
			t.Errorf("Text(%d) = %q, not %q", c.n, s, c.want)
		}
	}
}

// P1.1: the figures with which bytes begin, as far as they go.
func TestTakeTellsNumberAndFigures(t *testing.T) {
	for _, c := range []struct {
		b       string
		n, used int
	}{
		{"", 0, 0}, {"0", 0, 1}, {"7", 7, 1}, {"9", 9, 1}, {"10", 10, 2}, {"0123456789", 1114111, 10}, {"012345678x", 1114111, 9}, {"98765", 98765, 5},
		{"000", 0, 3}, {"007", 7, 3}, {"0001114111", 1114111, 10}, {"0001114112", 1114111, 10},
		{"12;", 12, 2}, {"12;34", 12, 2}, {"12:34", 12, 2}, {"12/34", 12, 2}, {"1 2", 1, 1}, {"1\x002", 1, 1}, {"1-2", 1, 1}, {"1.5", 1, 1}, {"1e3", 1, 1}, {"1_000", 1, 1}, {"5m", 5, 1},
		{"-1", 0, 0}, {"+1", 0, 0}, {" 1", 0, 0}, {";1", 0, 0}, {":1", 0, 0}, {"/1", 0, 0}, {"a", 0, 0}, {"A1", 0, 0}, {"F", 0, 0}, {"0x1F", 0, 1}, {"1F", 1, 1}, {"1a", 1, 1},
		{"\x00", 0, 0}, {"\xff1", 0, 0}, {"1\xff", 1, 1}, {"\xb1", 0, 0}, {"1\xb2", 1, 1}, {"\uff11", 0, 0}, {"1\uff12", 1, 1}, {"\u0661", 0, 0}, {"\u00b2", 0, 0},
	} {
		b := []byte(c.b)
		n, used := Take(b)
		if n != c.n || used != c.used {
			t.Errorf("Take(%q) = %d, %d, not %d, %d", c.b, n, used, c.n, c.used)
		}
		if string(b) != c.b {
			t.Errorf("Take(%q) changed it to %q", c.b, b)
		}
	}
	if n, used := Take(nil); n != 0 || used != 0 {
		t.Errorf("Take(nil) = %d, %d", n, used)
	}
}

// P1.1: what is above 1114111 is told as 1114111, and all its figures are counted.
func TestTakeSaturates(t *testing.T) {
	for _, c := range []struct {
		b       string
		n, used int
	}{
		{"1114109", 1114109, 7}, {"1114110", 1114110, 7}, {"1114111", 1114111, 7}, {"1114112", 1114111, 7}, {"1114119", 1114111, 7}, {"1114120", 1114111, 7},
		{"2000000;", 1114111, 7}, {"9999999", 1114111, 7}, {"999999", 999999, 6}, {"11141110", 1114111, 8}, {"11141111", 1114111, 8}, {"10000000", 1114111, 8},
		// Just where a number of 32 or 64 bits would wrap round.
		{"2147483647", 1114111, 10}, {"2147483648", 1114111, 10}, {"4294967296", 1114111, 10}, {"4294967303", 1114111, 10},
		{"9223372036854775807", 1114111, 19}, {"9223372036854775808", 1114111, 19}, {"18446744073709551616", 1114111, 20}, {"18446744073709551623;", 1114111, 20}, {"36893488147419103232", 1114111, 20},
	} {
		if n, used := Take([]byte(c.b)); n != c.n || used != c.used {
			t.Errorf("Take(%q) = %d, %d, not %d, %d", c.b, n, used, c.n, c.used)
		}
	}
	for figures := 8; figures <= 200; figures++ {
		for _, first := range "123456789" {
			b := string(first) + strings.Repeat("0", figures-1)
			if n, used := Take([]byte(b + ";9")); n != 1114111 || used != figures {
				t.Fatalf("Take(%s;9) = %d, %d", b, n, used)
			}
		}
	}
}

// P1.1: many figures, also of small numbers.
func TestTakeManyFigures(t *testing.T) {
	const many = 100000
	nines := strings.Repeat("9", many)
	noughts := strings.Repeat("0", many)
	for _, c := range []struct {
		b       string
		n, used int
	}{
		{nines, 1114111, many}, {nines + ";1", 1114111, many}, {noughts, 0, many}, {noughts + "5;", 5, many + 1}, {noughts + "1114112x", 1114111, many + 7}, {"1" + noughts, 1114111, many + 1},
	} {
		if n, used := Take([]byte(c.b)); n != c.n || used != c.used {
			t.Errorf("of %d bytes: %d, %d, not %d, %d", len(c.b), n, used, c.n, c.used)
		}
	}
}

// P1.1: of all bytes ten are figures, at the begin and behind one.
func TestTakeOfEachByte(t *testing.T) {
	for c := range 256 {
		n, used, behind, both := 0, 0, 3, 1
		if at := strings.IndexByte("0123456789", byte(c)); at >= 0 {
			n, used, behind, both = at, 1, 30+at, 2
		}
		if a, b := Take([]byte{byte(c)}); a != n || b != used {
			t.Errorf("byte %d: %d, %d", c, a, b)
		}
		if a, b := Take([]byte{'3', byte(c)}); a != behind || b != both {
			t.Errorf("byte %d behind a 3: %d, %d", c, a, b)
		}
	}
}

// P1.2: two figures of each byte, with capital letters.
func TestHexIsTwoFiguresEach(t *testing.T) {
	for _, c := range []struct{ b, want string }{
		{"", ""}, {"\x00", "00"}, {"\x01", "01"}, {"\x09", "09"}, {"\x0a", "0A"}, {"\x0f", "0F"}, {"\x10", "10"}, {"\x9f", "9F"}, {"\xa0", "A0"}, {"\xff", "FF"},
		{"AB", "4142"}, {"J\xff\x00", "4AFF00"}, {"\x00\x00", "0000"}, {"\xc3\xa9", "C3A9"}, {"clavier", "636C6176696572"}, {"\xde\xad\xbe\xef", "DEADBEEF"},
	} {
		b := []byte(c.b)
		if s := Hex(b); s != c.want {
			t.Errorf("Hex(%q) = %q, not %q", c.b, s, c.want)
		}
		if string(b) != c.b {
			t.Errorf("Hex(%q) changed it to %q", c.b, b)
		}
	}
	if s := Hex(nil); s != "" {
		t.Errorf("Hex(nil) = %q", s)
	}
	for c := range 256 {
		if s, want := Hex([]byte{byte(c)}), fmt.Sprintf("%02X", c); s != want {
			t.Errorf("byte %d: %q, not %q", c, s, want)
		}
	}
}

// P1.2: pairs of figures, small or large, are bytes; an empty text is none.
func TestUnhexOfPairs(t *testing.T) {
	for _, c := range []struct{ s, want string }{
		{"", ""}, {"00", "\x00"}, {"09", "\x09"}, {"0a", "\x0a"}, {"0A", "\x0a"}, {"90", "\x90"}, {"ff", "\xff"}, {"FF", "\xff"}, {"fF", "\xff"}, {"Ff", "\xff"},
		{"4142", "AB"}, {"4a4B", "JK"}, {"4A4b", "JK"}, {"0000", "\x00\x00"}, {"abcdef", "\xab\xcd\xef"}, {"ABCDEF", "\xab\xcd\xef"}, {"aBcDeF", "\xab\xcd\xef"}, {"0123456789", "\x01\x23\x45\x67\x89"},
		{"544E", "TN"}, {strings.Repeat("5a", 5000), strings.Repeat("Z", 5000)},
	} {
		if b, ok := Unhex(c.s); !ok || string(b) != c.want {
			t.Errorf("Unhex(%.40q) = %.40q, %v", c.s, b, ok)
		}
	}
}

// P1.2: an odd number of figures, and whatever isn't one, is nothing.
func TestUnhexRefuses(t *testing.T) {
	long := strings.Repeat("5a", 5000)
	for _, s := range []string{
		"4", "444", "44444", "a", "F", "0aB", long + "5", "g", "0", " ", "\xff",
		"4g", "g4", "0x", "x0", "G0", "0G", "0/", "0:", "0@", "0`", "/0", ":0", "@0", "`0", "-1", "+1", " 1", "1 ", "4 42", "4142 ", " 4142", "41 42", "41;42", "0x41", "41\n4", "4142\n\n", "\x00\x00", "41\x00\x00",
		long + "5g", "g5" + long, long[:5001] + "gg" + long[:5001], long + "zz",
		// Not text, and characters of two, three and four bytes, so that the bytes are even in number.
		"\xff\xff", "4\xff", "\xff4", "41\xff\xff", "\xb0\xb1", "\u00e9", "41\u00e9", "\uff11\uff12", "4\uff11", "\U0001d7d9", "\u0661", "\u0661\u0662",
		// Characters whose last eight bits are those of a figure.
		"\u0130", "\u0139", "\u0141\u0142", "\u0161", "\u0166\u0166", "\U00010041", "\u1030a",
	} {
		if b, ok := Unhex(s); ok || len(b) != 0 {
			t.Errorf("Unhex(%.40q) = %.40q, %v", s, b, ok)
		}
	}
}

// P1.2: of each pair of bytes, behind other pairs and ahead of them, against the library.
func TestUnhexOfEachPair(t *testing.T) {
	for n := range 65536 {
		pair := string([]byte{byte(n >> 8), byte(n)})
		for _, s := range []string{pair, "4a" + pair, pair + "4A"} {
			want, err := hex.DecodeString(s)
			if err != nil {
				want = nil
			}
			if b, ok := Unhex(s); ok != (err == nil) || !bytes.Equal(b, want) {
				t.Fatalf("Unhex(%q) = %q, %v, not %q", s, b, ok, want)
			}
		}
	}
}

// P1.2: of each code point between two figures.
func TestUnhexOfEachCharacter(t *testing.T) {
	for r := rune(128); r <= utf8.MaxRune; r++ {
		s := "0" + string(r) + "0"
		if len(s)%2 != 0 {
			s += "0"
		}
		if b, ok := Unhex(s); ok || len(b) != 0 {
			t.Fatalf("Unhex(%q) = %q, %v", s, b, ok)
		}
	}
}

// P1.3: numbers up to 1114111 are told there and back, whatever that isn't a figure stands behind them.
func TestNumbersThereAndBack(t *testing.T) {
	seen := map[string]bool{}
	behind := []string{"", ";", ":", "m", "-1", "\x00", "\xff"}
	for n := 0; n <= api.MaxPart; n++ {
		s := Text(n)
		if seen[s] {
			t.Fatalf("%d: %q, as another number", n, s)
		}
		seen[s] = true
		if back, used := Take([]byte(s + behind[n%len(behind)])); back != n || used != len(s) {
			t.Fatalf("%d: %q, and back: %d, %d", n, s, back, used)
		}
	}
}

// P1.3: greater numbers saturate.
func TestGreaterNumbersSaturate(t *testing.T) {
	greater := []int{1114112, 1114113, 1114120, 2000000, 9999999, 10000000, 11141110, math.MaxInt32 - 1, math.MaxInt32, math.MaxInt - 1, math.MaxInt}
	for n := 2000000; n < math.MaxInt/3; n *= 3 {
		greater = append(greater, n, n-1, n+1)
	}
	for _, n := range greater {
		s := Text(n)
		if back, used := Take([]byte(s)); back != api.MaxPart || used != len(s) {
			t.Errorf("%d: %q, and back: %d, %d", n, s, back, used)
		}
	}
}

// P1.3: bytes are told there and back, also of small figures.
func TestBytesThereAndBack(t *testing.T) {
	all := make([]byte, 0, 65536*2)
	for n := range 65536 {
		all = append(all, byte(n>>8), byte(n))
	}
	for cut := 0; cut <= 600; cut++ {
		checkBytes(t, all[:cut])
		checkBytes(t, all[len(all)-cut:])
	}
	checkBytes(t, all)
}

func checkBytes(t *testing.T, b []byte) {
	t.Helper()
	s := Hex(b)
	if len(s) != 2*len(b) {
		t.Fatalf("of %d bytes: %d figures", len(b), len(s))
	}
	for _, text := range []string{s, strings.ToLower(s)} {
		if back, ok := Unhex(text); !ok || !bytes.Equal(back, b) {
			t.Fatalf("of %d bytes: %v, %d bytes", len(b), ok, len(back))
		}
	}
}

// R3 and R4: each answer is the caller's own, and hangs on the argument alone.
func TestAnswersShareNothing(t *testing.T) {
	first, _ := Unhex("4142")
	first[0] = 'x'
	_ = append(first, 'y')
	if second, ok := Unhex("4142"); !ok || string(second) != "AB" {
		t.Errorf("Unhex again: %q, %v", second, ok)
	}
	b := []byte("12")
	s := Hex(b)
	Take(b)
	b[0] = '9'
	if s != "3132" {
		t.Errorf("Hex changed with its argument: %q", s)
	}
	if n, used := Take(b); n != 92 || used != 2 {
		t.Errorf("Take again: %d, %d", n, used)
	}
}

// P1: every call ends, and none panics.
func TestNoCallPanics(t *testing.T) {
	pieces := []string{"", "0", "9", "a", "F", ";", "-", "\x00", "\x1b", "\x7f", "\x80", "\xc3", "\xed\xa0\x80", "\xf4\x90\x80\x80", "\xff", "\u00e9", "\U0010ffff", strings.Repeat("7", 3000)}
	for _, p := range pieces {
		for _, q := range pieces {
			for _, r := range pieces {
				s := p + q + r
				n, used := Take([]byte(s))
				if n < 0 || n > api.MaxPart || used < 0 || used > len(s) {
					t.Fatalf("Take(%.40q) = %d, %d", s, n, used)
				}
				if back, ok := Unhex(Hex([]byte(s))); !ok || string(back) != s {
					t.Fatalf("Hex(%.40q), and back: %.40q, %v", s, back, ok)
				}
				if b, ok := Unhex(s); !ok && len(b) != 0 || ok && !strings.EqualFold(Hex(b), s) {
					t.Fatalf("Unhex(%.40q) = %.40q, %v", s, b, ok)
				}
			}
		}
	}
}
