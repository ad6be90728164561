package paste

import (
	"bytes"
	"fmt"
	"math"
	"strings"
	"testing"
	"unicode/utf8"

	"clavier/api"
	"clavier/utf"
	"clavier/wire"
)

// The calls are as the chapter has them.
var (
	_ func([]byte) []byte              = Clean
	_ func(api.Modes, []byte) []byte   = Send
	_ func([]byte) ([]byte, int, bool) = Take
	_ func(api.Modes, bool) []byte     = Focus
	_ func([]byte) (bool, bool)        = Looked
)

// A paste's marks, and what a focus sends, written out.
const (
	markAhead  = "\x1b[200~"
	markBehind = "\x1b[201~"
	focusIn    = "\x1b[I"
	focusOut   = "\x1b[O"
)

// cleanPoint tells whether a code point is clean, by the chapter's words.
func cleanPoint(r rune) bool {
	if r == 9 || r == 10 || r == 13 {
		return true
	}
	return r >= 32 && r <= 126 || r >= 160
}

// cleanText tells whether bytes are clean, by the chapter's words.
func cleanText(s string) bool {
	if !utf8.ValidString(s) {
		return false
	}
	for _, r := range s {
		if !cleanPoint(r) {
			return false
		}
	}
	return true
}

// wantClean is what may be pasted of some bytes, by the chapter's words.
func wantClean(s string) string {
	var b strings.Builder
	for s != "" {
		r, n := utf8.DecodeRuneInString(s)
		if (r != utf8.RuneError || n > 1) && cleanPoint(r) {
			b.WriteString(s[:n])
		}
		s = s[n:]
	}
	return b.String()
}

// wantTake is the paste with which bytes begin, and how many these are, by the chapter's words.
func wantTake(s string) (string, int, bool) {
	if !strings.HasPrefix(s, markAhead) {
		return "", 0, false
	}
	end := strings.Index(s[6:], markBehind)
	if end < 0 || !cleanText(s[6:6+end]) {
		return "", 0, false
	}
	return s[6 : 6+end], end + 12, true
}

// wantLooked is which focus bytes begin with, by the chapter's words.
func wantLooked(s string) (bool, bool) {
	return strings.HasPrefix(s, focusIn), strings.HasPrefix(s, focusIn) || strings.HasPrefix(s, focusOut)
}

// checkClean ends the test, if what may be pasted of some bytes isn't as it ought to be.
func checkClean(t *testing.T, s, want string) {
	t.Helper()
	if got := string(Clean([]byte(s))); got != want {
		t.Fatalf("Clean(%q) = %q, not %q", s, got, want)
	}
}

// checkSend ends the test, if what is sent of some bytes isn't as it ought to be.
func checkSend(t *testing.T, m api.Modes, s, want string) {
	t.Helper()
	if got := string(Send(m, []byte(s))); got != want {
		t.Fatalf("Send(%+v, %q) = %q, not %q", m, s, got, want)
	}
}

// checkTake holds the paste with which bytes begin against the chapter.
func checkTake(t *testing.T, s string) {
	t.Helper()
	want, count, is := wantTake(s)
	got, n, ok := Take([]byte(s))
	if string(got) != want || n != count || ok != is {
		t.Fatalf("Take(%q) = %q, %d, %v, not %q, %d, %v", s, got, n, ok, want, count, is)
	}
}

// checkNone ends the test, if a paste is taken.
func checkNone(t *testing.T, s string) {
	t.Helper()
	if got, n, ok := Take([]byte(s)); len(got) != 0 || n != 0 || ok {
		t.Fatalf("Take(%q) = %q, %d, %v", s, got, n, ok)
	}
}

// checkLooked holds which focus bytes begin with against the chapter.
func checkLooked(t *testing.T, s string) {
	t.Helper()
	want, is := wantLooked(s)
	if got, ok := Looked([]byte(s)); got != want || ok != is {
		t.Fatalf("Looked(%q) = %v, %v", s, got, ok)
	}
}

// check holds all that is done with bytes against the chapter.
func check(t *testing.T, s string) {
	t.Helper()
	clean := wantClean(s)
	checkClean(t, s, clean)
	checkClean(t, clean, clean)
	checkSend(t, api.Modes{}, s, clean)
	sent := markAhead + clean + markBehind
	checkSend(t, api.Modes{Paste: true}, s, sent)
	if got, n, ok := Take([]byte(sent)); !ok || n != len(sent) || string(got) != clean {
		t.Fatalf("Take(%q) = %q, %d, %v", sent, got, n, ok)
	}
	checkTake(t, s)
	checkTake(t, markAhead+s+markBehind)
	checkLooked(t, s)
}

// point is a number as utf-8 has it, also where it is no code point.
func point(r int) string {
	switch {
	case r < 128:
		return string([]byte{byte(r)})
	case r < 2048:
		return string([]byte{byte(192 + r/64), byte(128 + r%64)})
	case r < 65536:
		return string([]byte{byte(224 + r/4096), byte(128 + r/64%64), byte(128 + r%64)})
	}
	return string([]byte{byte(240 + r/262144), byte(128 + r/4096%64), byte(128 + r/64%64), byte(128 + r%64)})
}

// borders are code points where one, two, three and four bytes begin and end, surrogates, and those beside all these.
func borders() []int {
	var l []int
	for _, n := range []int{0, 9, 10, 13, 27, 32, 127, 128, 159, 160, 255, 2047, 2048, 4095, 4096, 0x2028, 0xD7FF, 0xD800, 0xDBFF, 0xDC00, 0xDFFF, 0xE000, 0xFDD0, 0xFEFF, 0xFFFD, 0xFFFF, 0x10000, 0x1F600, 0x10FFFF, 0x110000} {
		for r := max(n-2, 0); r <= n+2; r++ {
			l = append(l, r)
		}
	}
	return l
}

// noPoints are bytes with none of which a code point begins.
func noPoints() []string {
	l := []string{
		"\x80", "\x9b", "\xa0", "\xbf", "\xc0", "\xc1", "\xf5", "\xfe", "\xff", "\xc0\x80", "\xc1\xbf", "\xe0\x80\x80", "\xe0\x9f\xbf", "\xf0\x80\x80\x80", "\xf0\x8f\xbf\xbf",
		"\xed\xa0\x80", "\xed\xbf\xbf", "\xed\xa0\xbd\xed\xb8\x80", "\xf4\x90\x80\x80", "\xf8\x88\x80\x80\x80", "\xfc\x84\x80\x80\x80\x80",
		"\xc2", "\xc3", "\xdf", "\xe2", "\xe2\x82", "\xef\xbf", "\xf0", "\xf0\x9f", "\xf0\x9f\x98", "\xf4\x8f\xbf", "\xc2\xc2\xc2",
	}
	return l
}

// P17.1: bytes, and what may be pasted of them, written out.
func TestCleanRows(t *testing.T) {
	for _, r := range []struct{ s, want string }{
		{"", ""},
		{"ab", "ab"},
		{"a\x1bb", "ab"},
		{"a\tb\nc\rd", "a\tb\nc\rd"},
		{"\r\n", "\r\n"},
		{"\x00\x07\x08\x0b\x0c\x0e\x1f \x7e\x7f", " ~"},
		{"a\xc2\x80b\xc2\x9bc\xc2\x9fd", "abcd"},
		{"\xc2\xa0\xc3\xa9", "\xc2\xa0\xc3\xa9"},
		{"\xe2\x82\xac\xf0\x9f\x98\x80\xf4\x8f\xbf\xbf", "\xe2\x82\xac\xf0\x9f\x98\x80\xf4\x8f\xbf\xbf"},
		{"\xef\xbf\xbd\xef\xbf\xbe\xef\xbb\xbf\xe2\x80\xa8", "\xef\xbf\xbd\xef\xbf\xbe\xef\xbb\xbf\xe2\x80\xa8"},
		{"\xffa\xffb\xff", "ab"},
		{"a\xe2\x82", "a"},
		{"a\xe2\x82b", "ab"},
		{"\xe2\x82\xc3\xa9", "\xc3\xa9"},
		{"\xc3\x1b\xa9", ""},
		{"\xc3\xc3\xa9\xa9", "\xc3\xa9"},
		{"\xed\xa0\x80x\xf4\x90\x80\x80y\xc0\xafz", "xyz"},
		{"\x1b[201~ls\r", "[201~ls\r"},
		{"\x1b\x1b[[200~~", "[[200~~"},
		{"\xc2\x9b201~", "201~"},
		{"\x9b201~", "201~"},
	} {
		checkClean(t, r.s, r.want)
		check(t, r.s)
	}
}

// P17.1: each single byte, alone, between others, and each two bytes.
func TestEachByte(t *testing.T) {
	for i := range 256 {
		s := string([]byte{byte(i)})
		check(t, s)
		check(t, "a"+s)
		check(t, s+"b")
		check(t, "a"+s+"b")
		check(t, "\xc3\xa9"+s+"\xc3\xa9")
		check(t, "\xf0\x9f"+s+"\x80")
		for j := range 256 {
			check(t, s+string([]byte{byte(j)}))
		}
	}
}

// P17.1: each code point below 3000, and those at the borders, alone, twice, between others, and cut off.
func TestEachPoint(t *testing.T) {
	l := borders()
	for r := range 3000 {
		l = append(l, r)
	}
	for _, r := range l {
		s := point(r)
		checkClean(t, s, wantClean(s))
		check(t, s+s)
		check(t, "a"+s+"\xe2\x82\xac")
		for n := range len(s) {
			check(t, s[:n])
			check(t, s[:n]+"b"+s[n:])
			check(t, "a"+s[:n]+s)
			check(t, s[n:])
		}
	}
}

// P17.1: all code points there are: each is left as it is, but for those that are not clean.
func TestAllPoints(t *testing.T) {
	var all, clean strings.Builder
	count := 0
	for r := range 0x110000 {
		if r >= 0xD800 && r <= 0xDFFF {
			continue
		}
		all.WriteString(point(r))
		if cleanPoint(rune(r)) {
			clean.WriteString(point(r))
			count++
		}
	}
	if count != 0x110000-2048-62 {
		t.Error(count, "code points are clean")
	}
	if got := string(Clean([]byte(all.String()))); got != clean.String() {
		t.Error("all code points, cleaned, are", len(got), "bytes, not", clean.Len())
	}
	sent := markAhead + clean.String() + markBehind
	if got, n, ok := Take([]byte(sent + "x")); !ok || n != len(sent) || string(got) != clean.String() {
		t.Error("all code points aren't taken back:", len(got), n, ok)
	}
}

// P17.1: bytes that are no code point, at the begin, amid and at the end, and beside each other.
func TestBytesThatAreNoPoint(t *testing.T) {
	for _, s := range noPoints() {
		checkClean(t, s, "")
		checkClean(t, s+"b", "b")
		checkClean(t, "a"+s, "a")
		checkClean(t, "a"+s+"b", "ab")
		checkClean(t, s+"\xc3\xa9", "\xc3\xa9")
		checkClean(t, s+"\x1b"+s, "")
		for _, more := range noPoints() {
			check(t, s+more)
			check(t, s+"a"+more+"b")
			checkNone(t, markAhead+s+"a"+more+markBehind)
			checkTake(t, markAhead+s+more+markBehind)
		}
	}
}

// P17.1: what is sent, written out, with Paste and without it.
func TestSendRows(t *testing.T) {
	for _, r := range []struct{ s, want, marked string }{
		{"", "", "\x1b[200~\x1b[201~"},
		{"a", "a", "\x1b[200~a\x1b[201~"},
		{"a\r\n\tb", "a\r\n\tb", "\x1b[200~a\r\n\tb\x1b[201~"},
		{"a\x1bb", "ab", "\x1b[200~ab\x1b[201~"},
		{"\x1b", "", "\x1b[200~\x1b[201~"},
		{"\xff", "", "\x1b[200~\x1b[201~"},
		{"\xc3\xa9\xc3", "\xc3\xa9", "\x1b[200~\xc3\xa9\x1b[201~"},
		{"\x1b[201~rm\r", "[201~rm\r", "\x1b[200~[201~rm\r\x1b[201~"},
		{"\x1b[200~a\x1b[201~", "[200~a[201~", "\x1b[200~[200~a[201~\x1b[201~"},
		{"\x1b\xff[201~", "[201~", "\x1b[200~[201~\x1b[201~"},
		{"\x1b\x1b[201~[201~", "[201~[201~", "\x1b[200~[201~[201~\x1b[201~"},
		{"\x1b[20\x001~", "[201~", "\x1b[200~[201~\x1b[201~"},
		{"\xc2\x1b\x9b201~", "201~", "\x1b[200~201~\x1b[201~"},
	} {
		checkSend(t, api.Modes{}, r.s, r.want)
		checkSend(t, api.Modes{Paste: true}, r.s, r.marked)
	}
}

// P17.1: no other mode changes anything.
func TestOtherModes(t *testing.T) {
	s := "a\x1b\xc3\xa9\xff\r"
	for _, m := range []api.Modes{
		{Cursor: true}, {Keypad: true}, {Back: true}, {Focus: true}, {Lock: true}, {Line: true}, {Mouse: 1003}, {Mouse: -1}, {Coding: 1006}, {Coding: math.MaxInt}, {Other: 2}, {Other: math.MinInt},
		{Cursor: true, Keypad: true, Back: true, Focus: true, Lock: true, Line: true, Mouse: 2004, Coding: 2004, Other: 2004},
	} {
		checkSend(t, m, s, "a\xc3\xa9\r")
		m.Paste = true
		checkSend(t, m, s, markAhead+"a\xc3\xa9\r"+markBehind)
		m.Focus = false
		for _, in := range []bool{true, false} {
			if got := Focus(m, in); len(got) != 0 {
				t.Errorf("Focus(%+v, %v) = %q", m, in, got)
			}
		}
		m.Focus = true
		if in, out := string(Focus(m, true)), string(Focus(m, false)); in != focusIn || out != focusOut {
			t.Errorf("with %+v a focus sends %q and %q", m, in, out)
		}
	}
}

// pasted are bytes of many kinds that may be pasted.
func pasted() []string {
	return []string{
		"", "a", "ab\r\ncd\t", "\xc3\xa9", "\xe2\x82\xac~", "\xf0\x9f\x98\x80", "\xef\xbf\xbd", "[201~", "[200~", "201~", "\x1b", "\x1b[201~", "\x1b[200~", "\x1b[201", "\xc2\x9b201~", "\xff\xfe",
		"a\x1b[201~b\x1b[200~c", "\x00\x01\x02", "x\xe2\x82", strings.Repeat("long ", 300), strings.Repeat("\x1b[201~", 40),
	}
}

// P17.2: what is sent with Paste is taken, alone, with more bytes behind it, and not where it is cut off.
func TestTakeWhatIsSent(t *testing.T) {
	for _, s := range pasted() {
		sent := string(Send(api.Modes{Paste: true}, []byte(s)))
		for _, more := range []string{"", "a", "\x00", "\x1b", markAhead, markBehind, sent, "\xff", "\xc3", focusIn} {
			got, n, ok := Take([]byte(sent + more))
			if !ok || n != len(sent) || string(got) != wantClean(s) {
				t.Fatalf("Take(%q) = %q, %d, %v", sent+more, got, n, ok)
			}
		}
		for n := range len(sent) {
			checkNone(t, sent[:n])
			checkTake(t, sent[n:])
			checkTake(t, sent[:n]+sent[n+1:])
			for _, c := range []string{"\x00", "a", "\x1b", "[", "2", "0", "1", "~", "\x80", "\xc3"} {
				checkTake(t, sent[:n]+c+sent[n:])
				checkTake(t, sent[:n]+c+sent[n+1:])
			}
		}
	}
}

// P17.2: bytes that begin with a paste, and bytes that don't, written out.
func TestTakeRows(t *testing.T) {
	for _, r := range []struct {
		s, want string
		n       int
	}{
		{"\x1b[200~\x1b[201~", "", 12},
		{"\x1b[200~a\x1b[201~", "a", 13},
		{"\x1b[200~a\x1b[201~b\x1b[201~", "a", 13},
		{"\x1b[200~a\x1b[201~\x1b[200~b\x1b[201~", "a", 13},
		{"\x1b[200~\xc3\xa9\r\n\t\x1b[201~\xff", "\xc3\xa9\r\n\t", 17},
		{"\x1b[200~[200~[201~\x1b[201~", "[200~[201~", 22},
	} {
		if got, n, ok := Take([]byte(r.s)); !ok || n != r.n || string(got) != r.want {
			t.Errorf("Take(%q) = %q, %d, %v", r.s, got, n, ok)
		}
		checkTake(t, r.s)
	}
	for _, s := range []string{
		"", "a", "\x1b", "\x1b[200", "\x1b[200~", "\x1b[200~a", "\x1b[200~a\x1b[201", "\x1b[201~", "a\x1b[201~", "\x1b[201~a\x1b[200~", "[200~a\x1b[201~", "200~a[201~",
		"x\x1b[200~a\x1b[201~", "\x1b\x1b[200~a\x1b[201~", "\x1b[200~\x1b[200~a\x1b[201~", "\x1b[200~a\x1b[200~\x1b[201~", "\x1b[200~\x1b[200~a\x1b[201~\x1b[201~",
		"\x1b[200~a\x1b\x1b[201~", "\x1b[200~a\x1b[A\x1b[201~", "\x1b[200~\x00\x1b[201~", "\x1b[200~\x7f\x1b[201~", "\x1b[200~\x08\x1b[201~", "\x1b[200~\x0b\x1b[201~", "\x1b[200~\xc2\x80\x1b[201~", "\x1b[200~\xc2\x9b\x1b[201~", "\x1b[200~\xc2\x9f\x1b[201~",
		"\x1b[200~\xff\x1b[201~", "\x1b[200~a\xc3\x1b[201~", "\x1b[200~\x80a\x1b[201~", "\x1b[200~\xed\xa0\x80\x1b[201~", "\x1b[200~a\x9b201~", "\x1b[200~a\xc2\x9b201~", "\x9b200~a\x1b[201~",
		"\x1b[0200~a\x1b[201~", "\x1b[200;~a\x1b[201~", "\x1b[200;1~a\x1b[201~", "\x1b[?200~a\x1b[201~", "\x1b[200 ~a\x1b[201~", "\x1b[200$a\x1b[201~", "\x1b[200:1~a\x1b[201~", "\x1b[2000~a\x1b[201~", "\x1b[20~a\x1b[201~", "\x1b[202~a\x1b[201~", "\x1b[199~a\x1b[201~",
		"\x1b[200~a\x1b[0201~", "\x1b[200~a\x1b[201;~", "\x1b[200~a\x1b[202~", "\x1b[200~a\x1b[200~", "\x1b[200~a\x1b[201u", "\x1b[200~a\x1b[?201~", "\x1bO200~a\x1b[201~", "\x1b[I\x1b[200~a\x1b[201~",
	} {
		checkNone(t, s)
		checkTake(t, s)
	}
}

// P17.2: each byte between the marks, alone, and behind and ahead of clean ones; each code point at the borders.
func TestTakeEachByte(t *testing.T) {
	for i := range 256 {
		s := string([]byte{byte(i)})
		for _, between := range []string{s, "a" + s, s + "b", "a" + s + "b", "\xc2" + s, "\xe2\x82" + s, "\xf0\x9f\x98" + s} {
			checkTake(t, markAhead+between+markBehind)
			checkTake(t, markAhead+between+markBehind+s)
			checkTake(t, markAhead+between)
		}
	}
	for _, r := range borders() {
		checkTake(t, markAhead+point(r)+markBehind)
		checkTake(t, markAhead+"a"+point(r)+"b"+markBehind)
	}
}

// P17.3: the focus sends, with Focus, and nothing without it.
func TestFocus(t *testing.T) {
	for _, r := range []struct {
		m    api.Modes
		in   bool
		want string
	}{
		{api.Modes{Focus: true}, true, "\x1b[I"},
		{api.Modes{Focus: true}, false, "\x1b[O"},
		{api.Modes{}, true, ""},
		{api.Modes{}, false, ""},
		{api.Modes{Paste: true}, true, ""},
	} {
		if got := string(Focus(r.m, r.in)); got != r.want {
			t.Errorf("Focus(%+v, %v) = %q", r.m, r.in, got)
		}
	}
	for _, in := range []bool{true, false} {
		if got, ok := Looked(Focus(api.Modes{Focus: true}, in)); !ok || got != in {
			t.Errorf("Looked of the focus %v is %v, %v", in, got, ok)
		}
	}
}

// P17.3: bytes, and which focus they begin with, written out; what is behind changes nothing.
func TestLooked(t *testing.T) {
	for _, more := range []string{"", "a", "I", "O", "\x1b", "\x1b[I", "\x1b[O", "\x00", "\xff", "\xc3", ";1I"} {
		for in, s := range map[bool]string{true: focusIn, false: focusOut} {
			if got, ok := Looked([]byte(s + more)); !ok || got != in {
				t.Errorf("Looked(%q) = %v, %v", s+more, got, ok)
			}
		}
	}
	for _, s := range []string{
		"", "\x1b", "\x1b[", "[I", "[O", "I", "O", "a\x1b[I", "\x1b\x1b[I", "\x1bOI", "\x1bI", "\x1bO", "\x1bOO", "\x1b[1I", "\x1b[0O", "\x1b[;I", "\x1b[?I", "\x1b[>O", "\x1b[ I", "\x1b[$O",
		"\x1b[H", "\x1b[J", "\x1b[N", "\x1b[P", "\x1b[i", "\x1b[o", "\x9bI", "\xc2\x9bO", "\x1b]I", "\x1bPI", "\x1b[200~\x1b[I",
	} {
		if got, ok := Looked([]byte(s)); got || ok {
			t.Errorf("Looked(%q) = %v, %v", s, got, ok)
		}
	}
	for i := range 256 {
		c := string([]byte{byte(i)})
		for _, s := range []string{c, c + "[I", "\x1b" + c + "I", "\x1b" + c + "O", "\x1b[" + c, "\x1b[" + c + "I", "\x1b[I" + c, "\x1b[O" + c, c + focusOut} {
			checkLooked(t, s)
		}
	}
}

// runs are bytes of many pieces, of a fixed seed.
func runs(count, most int) []string {
	seed := uint32(17)
	next := func(n int) int {
		seed = seed*1664525 + 1013904223
		return int(seed>>8) % n
	}
	pieces := append(noPoints(),
		"\x1b", "[", "2", "0", "1", "~", "\x1b[200~", "\x1b[201~", "[201~", "201~", "\x1b[20", "1~", "a", " ", "\r", "\n", "\t", "\x00", "\x18", "\x1a", "\x7f",
		"\xc2\x9b", "\xc2\x80", "\xc2\x9c", "\xc2\xa0", "\xc3\xa9", "\xe2\x82\xac", "\xf0\x9f\x98\x80", "\xef\xbf\xbd", "\x1b[I", "\x1b[O", "\x1b[A", "\x1bOP", "\x1b]0;x\x07", "\x1bP", "\x1b\\")
	l := make([]string, count)
	for i := range l {
		var b strings.Builder
		for range next(most) {
			b.WriteString(pieces[next(len(pieces))])
		}
		l[i] = b.String()
	}
	return l
}

// P17.1 to P17.4: bytes of all kinds.
func TestRuns(t *testing.T) {
	for _, s := range runs(60000, 9) {
		check(t, s)
	}
	for _, s := range runs(300, 2000) {
		check(t, s)
	}
}

// P17.4: whatever is pasted, what is sent between the marks is clean, holds no mark and no sequence, and is taken back; what is sent is one paste.
func TestWhatIsSentIsClean(t *testing.T) {
	for _, s := range append(runs(20000, 12), pasted()...) {
		sent := Send(api.Modes{Paste: true}, []byte(s))
		if !bytes.HasPrefix(sent, []byte(markAhead)) || !bytes.HasSuffix(sent, []byte(markBehind)) {
			t.Fatalf("of %q is sent %q", s, sent)
		}
		between := sent[6 : len(sent)-6]
		if !utf.Valid(between) || !cleanText(string(between)) || bytes.IndexByte(between, 27) >= 0 {
			t.Fatalf("of %q stands between the marks %q", s, between)
		}
		for at := range between {
			if seq, _, err := wire.Take(between[at:]); err == api.OK {
				t.Fatalf("of %q is sent %q, with %+v", s, between, seq)
			}
		}
		if got, n, ok := Take(sent); !ok || n != len(sent) || !bytes.Equal(got, between) {
			t.Fatalf("Take(%q) = %q, %d, %v", sent, got, n, ok)
		}
		checkClean(t, string(between), string(between))
		checkSend(t, api.Modes{}, string(between), string(between))
		checkSend(t, api.Modes{Paste: true}, string(between), string(sent))
	}
}

// P17.4: pastes, one behind the other, are taken apart again.
func TestPastesBehindEachOther(t *testing.T) {
	l := runs(300, 9)
	var all []byte
	for _, s := range l {
		all = append(all, Send(api.Modes{Paste: true}, []byte(s))...)
	}
	for _, s := range l {
		got, n, ok := Take(all)
		if !ok || string(got) != wantClean(s) {
			t.Fatalf("of %q is taken %q, %d, %v", s, got, n, ok)
		}
		all = all[n:]
	}
	if len(all) > 0 {
		t.Errorf("%q is left", all)
	}
}

// The chapter's example.
func TestExample(t *testing.T) {
	checkClean(t, "a\x1bb", "ab")
}

// spoil writes into all the room of bytes.
func spoil(b []byte) {
	for i := range b[:cap(b)] {
		b[:cap(b)][i] = '?'
	}
}

// R3: what is handed in stays as it is, and is shared with nothing; what is told is the caller's own, and the same is told twice.
func TestWhatIsHandedInStays(t *testing.T) {
	for _, s := range append(pasted(), "\x1b[200~a\x1b[201~", "\x1b[200~\xc3\xa9\r\x1b[201~more", "\x1b[200~\x1b[201~", focusIn, focusOut+"x") {
		room := []byte(s + "beyond")
		in := room[:len(s)]
		for name, call := range map[string]func() []byte{
			"Clean":          func() []byte { return Clean(in) },
			"Send":           func() []byte { return Send(api.Modes{Paste: true}, in) },
			"Send, unmarked": func() []byte { return Send(api.Modes{}, in) },
			"Take":           func() []byte { b, _, _ := Take(in); return b },
			"Focus":          func() []byte { return Focus(api.Modes{Focus: true}, len(s)%2 == 0) },
		} {
			one := call()
			want := string(one)
			spoil(one)
			if string(room) != s+"beyond" {
				t.Fatalf("%s: %q became %q", name, s, room)
			}
			two := call()
			if string(two) != want {
				t.Fatalf("%s of %q told %q, and then %q", name, s, want, two)
			}
			spoil(in)
			if string(two) != want {
				t.Fatalf("%s of %q shares what it tells: it became %q", name, s, two)
			}
			copy(room, s+"beyond")
		}
		one, ok := Looked(in)
		two, again := Looked(in)
		if one != two || ok != again || string(room) != s+"beyond" {
			t.Fatalf("Looked(%q) = %v, %v, and then %v, %v", s, one, ok, two, again)
		}
	}
}

// R2: nil and no bytes are the same.
func TestNoBytes(t *testing.T) {
	for _, b := range [][]byte{nil, {}} {
		if got := Clean(b); len(got) != 0 {
			t.Errorf("Clean of no bytes is %q", got)
		}
		if got := Send(api.Modes{}, b); len(got) != 0 {
			t.Errorf("of no bytes is sent %q", got)
		}
		if got := Send(api.Modes{Paste: true}, b); string(got) != markAhead+markBehind {
			t.Errorf("of no bytes is sent %q", got)
		}
		if got, n, ok := Take(b); len(got) != 0 || n != 0 || ok {
			t.Errorf("Take of no bytes is %q, %d, %v", got, n, ok)
		}
		if got, ok := Looked(b); got || ok {
			t.Errorf("Looked of no bytes is %v, %v", got, ok)
		}
	}
}

// R4: nothing is kept from call to call: in any order of calls each is told what it is told alone.
func TestNothingIsKept(t *testing.T) {
	l := append(pasted(), runs(200, 9)...)
	for i := range 20000 {
		check(t, l[i*37%len(l)])
		m := api.Modes{Focus: i%3 > 0}
		want := ""
		if m.Focus {
			want = fmt.Sprintf("\x1b[%c", "IO"[i%2])
		}
		if got := string(Focus(m, i%2 == 0)); got != want {
			t.Fatalf("Focus(%+v, %v) = %q", m, i%2 == 0, got)
		}
	}
}

// P1: long bytes end as well.
func TestLongPastes(t *testing.T) {
	for _, s := range []string{"a", "\x1b", "\xff", "\xc3", "\xf0\x9f\x98", "\xf0\x9f\x98\x80", markAhead, markBehind} {
		long := strings.Repeat(s, 200000)
		check(t, long)
		checkTake(t, markAhead+long)
	}
}
