package back

import (
	"bytes"
	"math"
	"regexp"
	"slices"
	"strconv"
	"strings"
	"testing"
	"unicode/utf8"

	"clavier/api"
	"clavier/board"
)

// The calls are as the chapter has them.
var (
	_ func(api.Modes, []byte) (api.Key, bool) = Key
	_ func(api.Modes, api.Key, api.Key) bool  = Same
)

// sent is what an event sends without flags.
func sent(m api.Modes, k api.Key) string {
	return string(board.Key(m, 0, k))
}

// isText tells whether a number is the code of a text's key.
func isText(code int) bool {
	return 32 <= code && code <= 1114111 && utf8.ValidRune(rune(code)) && (code < 127 || code > 159) && (code < 57344 || code > 63743)
}

// keyCodes are all codes of keys that aren't a text's, rising.
func keyCodes() []int {
	l := []int{9, 13, 27, 127}
	for code := 57348; code <= 57454; code++ {
		l = append(l, code)
	}
	return l
}

// firsts are the candidates of the first two rows, in turn.
func firsts() []api.Key {
	codes := keyCodes()
	for code := 32; code <= 126; code++ {
		codes = append(codes, code)
	}
	var l []api.Key
	for _, code := range codes {
		for m := range 8 {
			l = append(l, api.Key{Code: code, Mods: m, Type: 1})
		}
	}
	return l
}

var told = regexp.MustCompile(`^\x1b\[27;([2-8]);(0|[1-9]\d{0,6})~$`)

// lasts are the candidates of the other rows, in turn, by the chapter's words.
func lasts(s string) []api.Key {
	l := []api.Key{{Code: 97, Type: 1, Text: s}}
	escaped := s != "" && s[0] == 27
	if escaped {
		l = append(l, api.Key{Code: 97, Mods: 2, Type: 1, Text: s[1:]})
	}
	if found := told.FindStringSubmatch(s); found != nil {
		p, _ := strconv.Atoi(found[1])
		c, _ := strconv.Atoi(found[2])
		k := api.Key{Code: c, Mods: p - 1, Type: 1}
		if p%2 == 0 {
			k.Shifted = c
		}
		l = append(l, k)
	}
	if escaped {
		l = append(l, api.Key{Code: 57399, Mods: 2, Type: 1, Text: s[1:]})
	}
	return l
}

// index tells, of modes, which candidate of the first two rows is the first one that sends some bytes.
type index map[api.Modes]map[string]api.Key

func (x index) first(m api.Modes, s string) (api.Key, bool) {
	if x[m] == nil {
		x[m] = map[string]api.Key{}
		for _, k := range firsts() {
			b := sent(m, k)
			if _, ok := x[m][b]; !ok {
				x[m][b] = k
			}
		}
	}
	k, ok := x[m][s]
	return k, ok
}

// want is what stands for the events that send some bytes, by the chapter's words.
func (x index) want(m api.Modes, s string) (api.Key, bool) {
	if s == "" {
		return api.Key{}, false
	}
	if k, ok := x.first(m, s); ok {
		return k, true
	}
	for _, k := range lasts(s) {
		if sent(m, k) == s {
			return k, true
		}
	}
	return api.Key{}, false
}

// check holds Key against the chapter, and what it tells against what that sends.
func (x index) check(t *testing.T, m api.Modes, s string) (api.Key, bool) {
	t.Helper()
	got, ok := Key(m, []byte(s))
	if want, wantOK := x.want(m, s); got != want || ok != wantOK {
		t.Fatalf("Key(%+v, %.99q) = %+v, %v, not %+v, %v", m, s, got, ok, want, wantOK)
	}
	if ok && sent(m, got) != s {
		t.Fatalf("Key(%+v, %.99q) = %+v, which sends %q", m, s, got, sent(m, got))
	}
	return got, ok
}

// states are all modes that old forms ask, at each level of Other.
func states() []api.Modes {
	var l []api.Modes
	for bits := range 48 {
		l = append(l, api.Modes{Line: bits&1 != 0, Back: bits&2 != 0, Cursor: bits&4 != 0, Keypad: bits&8 != 0, Other: bits / 16})
	}
	return l
}

// fewStates are some of these: each level of Other, with none of the others, and with all.
func fewStates() []api.Modes {
	var l []api.Modes
	for level := range 3 {
		l = append(l, api.Modes{Other: level}, api.Modes{Line: true, Back: true, Cursor: true, Keypad: true, Other: level})
	}
	return l
}

// strange are modes that no key asks, modes that may not be, and modes that send nothing.
func strange() []api.Modes {
	return []api.Modes{
		{Focus: true}, {Paste: true}, {Mouse: 1003}, {Coding: 1006}, {Focus: true, Paste: true, Mouse: 9, Coding: 1015, Keypad: true, Other: 2},
		{Other: 3}, {Other: -1}, {Other: math.MinInt}, {Other: math.MaxInt}, {Other: 1<<32 + 2}, {Other: 258}, {Mouse: -7, Coding: 1 << 40, Cursor: true, Other: 1},
		{Lock: true}, {Lock: true, Other: 2, Keypad: true, Line: true},
	}
}

// P23.1: bytes, and what stands for them, written out.
func TestKeyRows(t *testing.T) {
	const shift, alt, ctrl = api.Shift, api.Alt, api.Ctrl
	usual, one, two := api.Modes{}, api.Modes{Other: 1}, api.Modes{Other: 2}
	line, back, cursor, pad := api.Modes{Line: true}, api.Modes{Back: true}, api.Modes{Cursor: true}, api.Modes{Keypad: true}
	for _, r := range []struct {
		m    api.Modes
		text string
		want api.Key
	}{
		// Keys that aren't text, ahead of those that are.
		{usual, "\t", api.Key{Code: 9}},
		{usual, "\x1b\t", api.Key{Code: 9, Mods: alt}},
		{usual, "\x1b[Z", api.Key{Code: 9, Mods: shift}},
		{usual, "\x1b\x1b[Z", api.Key{Code: 9, Mods: shift | alt}},
		{one, "\x1b[27;5;9~", api.Key{Code: 9, Mods: ctrl}},
		{two, "\x1b[27;2;9~", api.Key{Code: 9, Mods: shift}},
		{two, "\x1b\t", api.Key{Code: 97, Mods: -1}},
		{usual, "\r", api.Key{Code: 13}},
		{usual, "\x1b\r", api.Key{Code: 13, Mods: alt}},
		{line, "\r\n", api.Key{Code: 13}},
		{line, "\r", api.Key{Code: 'M', Mods: ctrl}},
		{usual, "\n", api.Key{Code: 'J', Mods: ctrl}},
		{two, "\n", api.Key{Code: 97, Mods: -1}},
		{usual, "\x1b", api.Key{Code: 27}},
		{two, "\x1b", api.Key{Code: 27}},
		{usual, "\x1b\x1b", api.Key{Code: 27, Mods: alt}},
		{two, "\x1b\x1b", api.Key{Code: 57402, Mods: alt | ctrl}},
		{two, "\x1b[27;3;27~", api.Key{Code: 27, Mods: alt}},
		{usual, "\x7f", api.Key{Code: 127}},
		{usual, "\b", api.Key{Code: 127, Mods: ctrl}},
		{back, "\b", api.Key{Code: 127}},
		{back, "\x7f", api.Key{Code: 127, Mods: ctrl}},
		{two, "\b", api.Key{Code: 97, Mods: -1}},
		{two, "\x1b[27;8;127~", api.Key{Code: 127, Mods: 7}},
		{usual, "\x1b[A", api.Key{Code: 57352}},
		{usual, "\x1b[D", api.Key{Code: 57350}},
		{usual, "\x1b[E", api.Key{Code: 57427}},
		{usual, "\x1bOP", api.Key{Code: 57364}},
		{usual, "\x1bOR", api.Key{Code: 57366}},
		{usual, "\x1b[1;8R", api.Key{Code: 57366, Mods: 7}},
		{cursor, "\x1bOA", api.Key{Code: 57352}},
		{cursor, "\x1bOE", api.Key{Code: 57427}},
		{cursor, "\x1b[1;2A", api.Key{Code: 57352, Mods: shift}},
		{usual, "\x1b[2~", api.Key{Code: 57348}},
		{usual, "\x1b[5;5~", api.Key{Code: 57354, Mods: ctrl}},
		{usual, "\x1b[29~", api.Key{Code: 57363}},
		{usual, "0", api.Key{Code: 57399}},
		{pad, "\x1bOp", api.Key{Code: 57399}},
		{pad, "0", api.Key{Code: 57399, Mods: shift}},
		{usual, "\x1b7", api.Key{Code: 57406, Mods: alt}},
		{usual, "\x1f", api.Key{Code: 57406, Mods: ctrl}},
		{two, "\x1f", api.Key{Code: 57406, Mods: ctrl}},
		{usual, "*", api.Key{Code: 57411}},
		{pad, "\x1bOM", api.Key{Code: 57414}},
		{two, "\x1b[27;5;13~", api.Key{Code: 13, Mods: ctrl}},
		{two, "\x1b\r", api.Key{Code: 57414, Mods: alt}},

		// Letters, and what is none.
		{usual, "a", api.Key{Code: 'a'}},
		{usual, "A", api.Key{Code: 'A'}},
		{usual, " ", api.Key{Code: ' '}},
		{usual, "!", api.Key{Code: '!'}},
		{usual, "~", api.Key{Code: '~'}},
		{usual, "\x03", api.Key{Code: 'C', Mods: ctrl}},
		{one, "\x03", api.Key{Code: 'C', Mods: ctrl}},
		{usual, "\x1b\x03", api.Key{Code: 'C', Mods: alt | ctrl}},
		{usual, "\x00", api.Key{Code: 57401, Mods: ctrl}},
		{usual, "\x1d", api.Key{Code: 57404, Mods: ctrl}},
		{usual, "\x1b@", api.Key{Code: '@', Mods: alt}},
		{usual, "\x01", api.Key{Code: 'A', Mods: ctrl}},
		{two, "\x1b[27;5;105~", api.Key{Code: 'i', Mods: ctrl}},
		{two, "\x1b[27;6;73~", api.Key{Code: 'I', Mods: shift | ctrl}},
		{one, "\x1b[27;6;73~", api.Key{Code: 'I', Mods: shift | ctrl}},
		{two, "\x1b[27;3;97~", api.Key{Code: 'a', Mods: alt}},
		{one, "\x1b[27;5;33~", api.Key{Code: '!', Mods: ctrl}},
		{one, "\x1ba", api.Key{Code: 'a', Mods: alt}},

		// Texts.
		{usual, "\u00e9", api.Key{Code: 97, Text: "\u00e9"}},
		{two, "\u00e9", api.Key{Code: 97, Text: "\u00e9"}},
		{usual, "ab", api.Key{Code: 97, Text: "ab"}},
		{usual, "00", api.Key{Code: 97, Text: "00"}},
		{usual, "12345678", api.Key{Code: 97, Text: "12345678"}},
		{usual, "\u20ac\U0001F600\ufffd\u00a0\U0010ffff~~~", api.Key{Code: 97, Text: "\u20ac\U0001F600\ufffd\u00a0\U0010ffff~~~"}},
		{usual, "\x1b\u00e9", api.Key{Code: 97, Mods: alt, Text: "\u00e9"}},
		{one, "\x1bab", api.Key{Code: 97, Mods: alt, Text: "ab"}},
		{usual, "\x1bOp", api.Key{Code: 97, Mods: alt, Text: "Op"}},
		{cursor, "\x1b[A", api.Key{Code: 97, Mods: alt, Text: "[A"}},
		{usual, "\x1b[27;5;9~", api.Key{Code: 97, Mods: alt, Text: "[27;5;9~"}},
		{usual, "\x1b[1;9A", api.Key{Code: 97, Mods: alt, Text: "[1;9A"}},

		// Those that are told by numbers, and those of the pad.
		{two, "\x1b[27;5;233~", api.Key{Code: 233, Mods: ctrl}},
		{one, "\x1b[27;5;233~", api.Key{Code: 233, Mods: ctrl}},
		{two, "\x1b[27;4;233~", api.Key{Code: 233, Mods: shift | alt, Shifted: 233}},
		{two, "\x1b[27;8;1114111~", api.Key{Code: 1114111, Mods: 7, Shifted: 1114111}},
		{two, "\x1b[27;3;8364~", api.Key{Code: 8364, Mods: alt}},
		{one, "\x1b[27;6;8364~", api.Key{Code: 8364, Mods: shift | ctrl, Shifted: 8364}},
		{two, "\x1b\u00e9", api.Key{Code: 57399, Mods: alt, Text: "\u00e9"}},
		{two, "\x1bOp", api.Key{Code: 57399, Mods: alt, Text: "Op"}},
		{api.Modes{Other: 2, Keypad: true}, "\x1bab", api.Key{Code: 57399, Mods: alt, Text: "ab"}},
		{two, "\x1ba", api.Key{Code: 57399, Mods: alt, Text: "a"}},
		{two, "\x1b[27;2;9", api.Key{Code: 57399, Mods: alt, Text: "[27;2;9"}},
	} {
		got, ok := Key(r.m, []byte(r.text))
		want, wantOK := r.want, true
		want.Type = api.Press
		if want.Mods < 0 {
			// Nothing sends these.
			want, wantOK = api.Key{}, false
		}
		if got != want || ok != wantOK {
			t.Errorf("Key(%+v, %q) = %+v, %v, not %+v, %v", r.m, r.text, got, ok, want, wantOK)
		}
		if ok && sent(r.m, got) != r.text {
			t.Errorf("%+v sends %q, not %q", got, sent(r.m, got), r.text)
		}
	}
}

// P23.1: the chapter's example.
func TestExample(t *testing.T) {
	tab, i := api.Key{Code: 9, Type: api.Press}, api.Key{Code: 'i', Mods: api.Ctrl, Type: api.Press}
	if k, ok := Key(api.Modes{}, []byte{9}); k != tab || !ok {
		t.Errorf("Key of the byte 9 = %+v, %v", k, ok)
	}
	if !Same(api.Modes{}, tab, i) || Same(api.Modes{Other: 2}, tab, i) {
		t.Error("tab sends the same as Ctrl and i but with Other 2")
	}
}

// P23.1: bytes that no event sends.
func TestKeyOfNone(t *testing.T) {
	for _, m := range append(fewStates(), strange()...) {
		for _, s := range []string{
			"", "\x80", "\xff", "\xc3", "\xc3\xa9\xff", "\xed\xa0\x80", "\x1b\xff", "\x1b\x1b\x1b", "\x1b\x1ba", "a\x00", "\x1ba\x1b", "\u0080", "\u009b", "\u0085x", "\x7f\x7f", "a\x7f",
			"123456789", "\x1b123456789", strings.Repeat("\u20ac", 9), strings.Repeat("a", 9999), strings.Repeat("\x1b", 9999), strings.Repeat("\x00", 99), "\n\r", "\r\n\r\n",
			"\x1b[27;1;233~", "\x1b[27;9;233~", "\x1b[27;05;233~", "\x1b[27;5;57352~", "\x1b[27;5;55296~", "\x1b[27;5;1114112~", "\x1b[27;5;0128~", "\x1b[27;5;233~x", "\x1b\x1b[27;5;233~",
			"\x1b[27;2;1114111~", "\x1b[200~\x1b[201~",
		} {
			if k, ok := Key(m, []byte(s)); k != (api.Key{}) || ok {
				t.Errorf("Key(%+v, %.99q) = %+v, %v", m, s, k, ok)
			}
		}
		if k, ok := Key(m, nil); k != (api.Key{}) || ok {
			t.Errorf("Key(%+v, nil) = %+v, %v", m, k, ok)
		}
	}
}

// P23.1: with Lock nothing is sent, so that nothing stands for any bytes.
func TestKeyWithLock(t *testing.T) {
	for _, s := range []string{"a", "\t", "\x1b", "\u00e9", "\x1b[A", "\x1b[27;5;233~", "\x1b\u00e9"} {
		for _, m := range fewStates() {
			m.Lock = true
			if k, ok := Key(m, []byte(s)); k != (api.Key{}) || ok {
				t.Errorf("Key(%+v, %q) = %+v, %v", m, s, k, ok)
			}
		}
	}
}

// P23.1: each byte alone, in modes of all kinds.
func TestKeyOfEachByte(t *testing.T) {
	x := index{}
	for c := range 256 {
		for i, m := range append(fewStates(), strange()...) {
			if i < 6 || c%8 == i%8 {
				x.check(t, m, string([]byte{byte(c)}))
			}
		}
	}
}

// P23.1: two bytes: each behind the escape byte, and others.
func TestKeyOfTwoBytes(t *testing.T) {
	x := index{}
	for c := range 256 {
		for i, m := range fewStates() {
			if (c+i)%2 == 0 {
				x.check(t, m, string([]byte{27, byte(c)}))
			}
		}
		for _, a := range []byte{'a', 13, 0xc3} {
			x.check(t, api.Modes{Other: c % 3, Line: c%2 == 0}, string([]byte{a, byte(c)}))
		}
	}
}

// texts are texts of a key: none, and of one character and of many, on the board and not.
func texts() []string {
	return []string{"", "a", "A", "7", "\u00e9", "[A", "[Z", "OA", "[27;5;9~", "\U0001F600\u20ac", "12345678", "~", " ", "[1;2P", "\u00a0"}
}

// textCodes are codes of texts' keys, letters, figures, and others, of one to four bytes.
func textCodes() []int {
	return []int{'a', 'c', 'i', 'm', 'z', 'A', 'M', 'Z', '[', '0', '2', '7', '8', '9', ' ', '!', '/', '?', '@', '_', '`', '~', 160, 193, 233, 255, 383, 945, 8364, 8490, 65533, 128512, 1114111}
}

// events are events that may be, of a code: with each of the old modifiers and some others, each type, Shifted, Base and texts, in turns.
func events(code, turn int) []api.Key {
	shifted := []int{0, 'A', '!', 233, code, 128512, 0, '2'}
	var l []api.Key
	for i := range 24 {
		n := i + turn
		k := api.Key{Code: code, Mods: n%8 + 8*(n/8%32), Type: 1 + n/5%2, Shifted: shifted[n/3%8], Base: shifted[n/7%8], Text: texts()[n*7%len(texts())]}
		if n%3 == 0 {
			k.Text = ""
		}
		if !isText(k.Shifted) {
			k.Shifted = 0
		}
		if !isText(k.Base) {
			k.Base = 0
		}
		l = append(l, k)
	}
	return l
}

// P23.1, P23.2: of what an event that may be sends there is a candidate, the first one of the chapter; it sends the same, and stands for itself.
func (x index) checkEvent(t *testing.T, m api.Modes, k api.Key) {
	t.Helper()
	s := sent(m, k)
	stands, ok := x.check(t, m, s)
	if ok != (s != "") {
		t.Fatalf("in %+v %+v sends %q, for which %+v, %v stands", m, k, s, stands, ok)
	}
	if Same(m, k, stands) != ok || Same(m, stands, k) != ok || Same(m, k, k) != ok {
		t.Fatalf("in %+v %+v and %+v: %v", m, k, stands, Same(m, k, stands))
	}
}

// P23.1, P23.2: what each code's events send, in all modes that count, in turns.
func TestKeyOfEachCode(t *testing.T) {
	x := index{}
	all := append(states(), strange()...)
	for i, code := range append(keyCodes(), textCodes()...) {
		for j, k := range events(code, i*5) {
			x.checkEvent(t, all[(i*7+j)%len(all)], k)
		}
	}
}

// P23.1, P23.2: the keys of which each mode matters, in each state of the modes.
func TestKeyInEachState(t *testing.T) {
	x := index{}
	for i, m := range states() {
		for j, code := range []int{9, 13, 127, 57352, 57364, 57348, 57399, 57414, 57427, 'a', '7', 233, 57358, 57441} {
			for mods := (i + j) % 3; mods < 8; mods += 3 {
				x.checkEvent(t, m, api.Key{Code: code, Mods: mods, Type: 1})
			}
		}
		for j, text := range texts() {
			x.checkEvent(t, m, api.Key{Code: 'q', Mods: []int{0, 2, 64, 66}[(i+j)%4], Type: 1, Text: text})
			x.checkEvent(t, m, api.Key{Code: 57399, Mods: []int{0, 2, 64, 66}[(i+j+1)%4], Type: 2, Text: text})
		}
	}
}

// P23.1: of each of the first candidates: what stands for what it sends is it, or one ahead of it in turn.
func TestFirstCandidates(t *testing.T) {
	x := index{}
	for i, k := range firsts() {
		for j, m := range fewStates() {
			if (i+j)%2 == 0 {
				x.checkEvent(t, m, k)
			}
		}
	}
}

// P23.1: the turn: codes rise, of each code modifiers do, and the rows stand one behind the other.
func TestTurn(t *testing.T) {
	press := func(code, mods int, text string) api.Key {
		return api.Key{Code: code, Mods: mods, Type: 1, Text: text}
	}
	for _, r := range []struct {
		m            api.Modes
		first, later api.Key
	}{
		{api.Modes{}, press(9, 0, ""), press('i', 4, "")},
		{api.Modes{}, press(9, 0, ""), press(9, 4, "")},
		{api.Modes{}, press(13, 0, ""), press(57414, 0, "")},
		{api.Modes{}, press(13, 0, ""), press('m', 4, "")},
		{api.Modes{}, press(27, 0, ""), press('[', 4, "")},
		{api.Modes{}, press(27, 0, ""), press(57402, 4, "")},
		{api.Modes{}, press(127, 0, ""), press('?', 4, "")},
		{api.Modes{}, press(127, 4, ""), press('H', 4, "")},
		{api.Modes{}, press(127, 0, ""), press(57407, 4, "")},
		{api.Modes{}, press(57350, 0, ""), press(57417, 0, "")},
		{api.Modes{}, press(57348, 0, ""), press(57425, 0, "")},
		{api.Modes{}, press(57399, 0, ""), press('0', 0, "")},
		{api.Modes{}, press(57399, 0, ""), press(57399, 1, "")},
		{api.Modes{}, press('C', 4, ""), press('C', 5, "")},
		{api.Modes{}, press('C', 4, ""), press('c', 4, "")},
		{api.Modes{}, press('A', 0, ""), press('a', 1, "")},
		{api.Modes{}, press('A', 0, ""), press('a', 0, "A")},
		{api.Modes{}, press('x', 2, ""), press('a', 2, "x")},
		{api.Modes{}, press('a', 2, "[27;5;!~"), press(57399, 2, "[27;5;!~")},
		{api.Modes{Other: 2}, press('A', 5, ""), api.Key{Code: 233, Mods: 5, Type: 1, Shifted: 'A'}},
		{api.Modes{}, press('a', 2, "\u00e9"), press(57399, 2, "\u00e9")},
		{api.Modes{}, press('a', 0, "\u00e9"), press(233, 0, "")},
		{api.Modes{Other: 2}, api.Key{Code: 233, Mods: 5, Type: 1, Shifted: 233}, api.Key{Code: 'q', Mods: 5, Type: 1, Shifted: 233}},
		{api.Modes{}, press(57352, 0, ""), press('a', 2, "[A")},
		{api.Modes{Other: 2}, press('a', 0, "\u00e9"), press(57399, 0, "\u00e9")},
	} {
		s := sent(r.m, r.first)
		if later := sent(r.m, r.later); s != later {
			t.Errorf("%+v sends %q, and %+v %q", r.first, s, r.later, later)
		}
		if k, ok := Key(r.m, []byte(s)); k != r.first || !ok {
			t.Errorf("Key(%+v, %q) = %+v, %v, not %+v", r.m, s, k, ok, r.first)
		}
	}
}

// P23.1: each of the rows of candidates is needed: there are bytes that none but one of its candidates sends.
func TestEachRowIsNeeded(t *testing.T) {
	row := func(k api.Key) int {
		switch {
		case k.Text != "" && k.Code == 57399:
			return 5
		case k.Code > 127 && (k.Code < 57344 || k.Code > 63743):
			return 4
		case k.Text != "":
			return 3
		case slices.Contains(keyCodes(), k.Code):
			return 1
		}
		return 2
	}
	for want, r := range map[int]struct {
		m    api.Modes
		text string
	}{
		1: {api.Modes{Line: true}, "\r\n"},
		2: {api.Modes{Line: true}, "\r"},
		3: {api.Modes{Other: 2}, "\u20ac"},
		4: {api.Modes{Other: 2}, "\x1b[27;3;8364~"},
		5: {api.Modes{Other: 2}, "\x1b\u20ac"},
	} {
		var rows []int
		candidates := append(firsts(), lasts(r.text)...)
		for _, k := range candidates {
			if sent(r.m, k) == r.text {
				rows = append(rows, row(k))
			}
		}
		if k, ok := Key(r.m, []byte(r.text)); !slices.Equal(slices.Compact(rows), []int{want}) || row(k) != want || !ok {
			t.Errorf("Key(%+v, %q) = %+v, %v, of the rows %v, not %d", r.m, r.text, k, ok, rows, want)
		}
	}
}

// P23.2: each code's sequences at the levels of Other, of all numbers of modifiers, and of codes that may not be.
func TestKeyOfTold(t *testing.T) {
	x := index{}
	for _, level := range []int{0, 1, 2, 3} {
		m := api.Modes{Other: level}
		for _, c := range []int{0, 8, 9, 13, 27, 31, 32, 97, 127, 128, 159, 160, 233, 8364, 55295, 55296, 57343, 57352, 57441, 63743, 63744, 1114111, 1114112} {
			for p := 0; p <= 9; p++ {
				s := "\x1b[27;" + strconv.Itoa(p) + ";" + strconv.Itoa(c) + "~"
				x.check(t, m, s)
			}
		}
	}
}

// P23.2: two events send the same just if the same stands for them.
func TestSameJustIfTheSameStands(t *testing.T) {
	for i, m := range []api.Modes{{}, {Other: 1, Keypad: true}, {Other: 2, Back: true, Line: true}} {
		var l, stands []api.Key
		for j, code := range []int{9, 13, 27, 57352, 57364, 57399, 57406, 57414, 57417, 57358, 'a', 'i', 'm', 'A', '7', '/', '0', 233, 8364} {
			l = append(l, events(code, i+j*3)[:12]...)
		}
		for _, k := range l {
			k, _ := Key(m, []byte(sent(m, k)))
			stands = append(stands, k)
		}
		for a := range l {
			for b := range l {
				want := stands[a] == stands[b] && stands[a] != (api.Key{})
				if got := Same(m, l[a], l[b]); got != want {
					t.Fatalf("Same(%+v, %+v, %+v) = %v, but for them %+v and %+v stand", m, l[a], l[b], got, stands[a], stands[b])
				}
			}
		}
	}
}

// mayNot are events that may not be, each by one part.
func mayNot() []api.Key {
	return []api.Key{
		{}, {Code: 'a'}, {Code: 'a', Type: 4}, {Code: 'a', Type: -1}, {Code: 'a', Mods: 256, Type: 1}, {Code: 'a', Mods: -1, Type: 1}, {Code: 0, Type: 1}, {Code: 128, Type: 1}, {Code: 57455, Type: 1},
		{Code: 'a', Type: 1, Text: "\x1b"}, {Code: 'a', Type: 1, Text: "\xff"}, {Code: 'a', Type: 1, Text: "123456789"}, {Code: 'a', Type: 1, Shifted: 9}, {Code: 'a', Type: 1, Base: 57352}, {Code: 1<<32 + 'a', Type: 1},
	}
}

// silent are events that may be, and send nothing.
func silent() []api.Key {
	return []api.Key{{Code: 'a', Type: 3}, {Code: 57352, Type: 3}, {Code: 57358, Type: 1}, {Code: 57441, Type: 1}, {Code: 57454, Mods: 5, Type: 2}}
}

// P23.1: events that send the same, ones that don't, ones that send nothing, and ones that may not be.
func TestSameRows(t *testing.T) {
	press := func(code, mods int) api.Key { return api.Key{Code: code, Mods: mods, Type: 1} }
	usual, two := api.Modes{}, api.Modes{Other: 2}
	for _, r := range []struct {
		m    api.Modes
		k, j api.Key
		same bool
	}{
		{usual, press('a', 0), press('a', 0), true},
		{usual, press('a', 0), press('b', 0), false},
		{usual, press('a', 0), api.Key{Code: 'a', Type: 2}, true},
		{usual, press('a', 0), api.Key{Code: 'a', Type: 3}, false},
		{usual, press('a', 0), press('a', 8), true},
		{usual, press('a', 0), press('a', 2), false},
		{usual, press('a', 1), press('A', 0), true},
		{usual, press(9, 0), press('i', 4), true},
		{two, press(9, 0), press('i', 4), false},
		{usual, press(13, 0), press('m', 4), true},
		{api.Modes{Line: true}, press(13, 0), press('m', 4), false},
		{usual, press(127, 0), press(127, 1), true},
		{usual, press(127, 0), press(127, 4), false},
		{usual, press(57350, 0), press(57417, 0), true},
		{usual, press('0', 0), press(57399, 0), true},
		{api.Modes{Keypad: true}, press('0', 0), press(57399, 0), false},
		{usual, press('z', 0), api.Key{Code: 'a', Type: 1, Text: "z"}, true},
		{api.Modes{Lock: true}, press('a', 0), press('a', 0), false},
		{api.Modes{Other: 9}, press('a', 6), press('A', 6), true},
		{two, press('a', 6), press('A', 6), false},
	} {
		if Same(r.m, r.k, r.j) != r.same || Same(r.m, r.j, r.k) != r.same {
			t.Errorf("Same(%+v, %+v, %+v) isn't %v", r.m, r.k, r.j, r.same)
		}
	}
	nothing := append(mayNot(), silent()...)
	for _, m := range append(states(), strange()...) {
		for _, k := range nothing {
			for _, j := range append(nothing, press('a', 0), press(9, 0), press(57352, 4)) {
				if Same(m, k, j) || Same(m, j, k) {
					t.Fatalf("Same(%+v, %+v, %+v)", m, k, j)
				}
			}
		}
	}
}

// P23.1: Same holds what both send against each other, in modes of all kinds.
func TestSameInEachState(t *testing.T) {
	var l []api.Key
	for i, code := range []int{9, 13, 127, 27, 57352, 57419, 57399, 57414, 'a', 'm', 'M', '0', '?', 233} {
		for m := range 8 {
			l = append(l, api.Key{Code: code, Mods: m, Type: 1, Text: []string{"", "", "a", "0"}[(i+m)%4]})
		}
	}
	for _, m := range append(states(), strange()...) {
		texts := make([]string, len(l))
		for i, k := range l {
			texts[i] = sent(m, k)
		}
		for i := range l {
			for j := i % 5; j < len(l); j += 5 {
				if want := texts[i] == texts[j] && texts[i] != ""; Same(m, l[i], l[j]) != want {
					t.Fatalf("Same(%+v, %+v, %+v) isn't %v", m, l[i], l[j], want)
				}
			}
		}
	}
}

// chance is a row of numbers of a fixed seed.
type chance uint64

// upTo is the next number, below n.
func (c *chance) upTo(n int) int {
	*c = *c*6364136223846793005 + 1442695040888963407
	return int(uint64(*c) >> 33 % uint64(n))
}

// P23.1, P23.2: many events, and many rows of bytes, of a fixed seed.
func TestRunsOfChance(t *testing.T) {
	x, c, all := index{}, chance(23), append(states(), strange()...)
	codes := append(keyCodes(), textCodes()...)
	for range 700 {
		m := all[c.upTo(len(all))]
		x.checkEvent(t, m, events(codes[c.upTo(len(codes))], c.upTo(4096))[c.upTo(24)])
	}
	pieces := []string{"\x1b", "[", "O", "A", "27;5;", "233", "~", "a", "0", "\u00e9", "\x03", "\t", "1;2", "Z", "\xff", "\r", "\n"}
	for range 700 {
		s := ""
		for range 1 + c.upTo(5) {
			s += pieces[c.upTo(len(pieces))]
		}
		x.check(t, all[c.upTo(len(all))], s)
	}
}

// R3: what is handed in stays as it is, what is told hangs on nothing that was, and is the same when it is told again; R4: whatever was asked between.
func TestWhatIsHandedInStays(t *testing.T) {
	x := index{}
	for _, m := range fewStates() {
		for _, s := range []string{"a", "\t", "\u00e9", "\x1b\u00e9", "ab", "\x1b[27;5;233~", "\x1b[27;4;8364~", "\x1b", "\xff", "\x1b[A"} {
			b := append(make([]byte, 0, len(s)+32), s...)
			spare := b[len(b):cap(b)]
			for i := range spare {
				spare[i] = '!'
			}
			k, ok := Key(m, b)
			if string(b) != s || !bytes.Equal(spare, bytes.Repeat([]byte("!"), len(spare))) {
				t.Fatalf("Key changes %q into %q", s, b)
			}
			clear(b)
			want, wantOK := x.want(m, s)
			if k != want || ok != wantOK {
				t.Fatalf("Key(%+v, %q) = %+v, when its bytes are changed", m, s, k)
			}
			Key(api.Modes{Other: 2, Line: true}, []byte("\x1bzz"))
			if again, againOK := Key(m, []byte(s)); again != want || againOK != wantOK {
				t.Fatalf("Key(%+v, %q) = %+v when it is told again, not %+v", m, s, again, want)
			}
		}
	}
}

// P1: no call panics, whatever it is given.
func TestNoCallPanics(t *testing.T) {
	nums := []int{0, math.MinInt, math.MaxInt, 1114111, 1114112, 57344, 57455, 55296}
	for bits := range 63 {
		nums = append(nums, 1<<bits, -1<<bits, 1<<bits-1)
	}
	for i, n := range nums {
		m := api.Modes{Mouse: n, Coding: n, Other: n, Keypad: i%2 == 0}
		for j, o := range nums {
			k := api.Key{Code: n, Mods: o, Type: 1, Shifted: n, Base: o, Text: "\xff"}
			Same(m, k, api.Key{Code: o, Mods: n, Type: n, Shifted: o})
			Same(m, api.Key{Code: 'a', Mods: n & 255, Type: 1, Shifted: o}, api.Key{Code: 'a', Type: o})
			if j%16 == i%16 && i%8 == 0 {
				Key(m, []byte("\x1b[27;5;"+strconv.Itoa(o)+"~"))
			}
		}
	}
	Key(api.Modes{}, make([]byte, 1<<20))
	Key(api.Modes{Other: 2}, bytes.Repeat([]byte("\x1b["), 1<<19))
	Key(api.Modes{}, append([]byte{27}, bytes.Repeat([]byte("a"), 1<<20)...))
}
