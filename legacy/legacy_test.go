package legacy

import (
	"math"
	"slices"
	"strconv"
	"strings"
	"testing"
	"unicode/utf8"

	"clavier/api"
	"clavier/mods"
	"clavier/wire"
)

// The call is as the chapter has it.
var _ func(api.Modes, api.Key) []byte = Key

// padKey is what a key of the pad sends with the mode Keypad, and the character that it stands for.
type padKey struct {
	final string
	char  int
}

// letters, numbers and pads are the keys of these kinds, by their codes, written out.
func letters() map[int]string {
	return map[int]string{
		57350: "D", 57351: "C", 57352: "A", 57353: "B", 57356: "H", 57357: "F",
		57364: "P", 57365: "Q", 57366: "R", 57367: "S",
		57417: "D", 57418: "C", 57419: "A", 57420: "B", 57423: "H", 57424: "F", 57427: "E",
	}
}

func numbers() map[int]string {
	return map[int]string{
		57348: "2", 57349: "3", 57354: "5", 57355: "6", 57363: "29",
		57368: "15", 57369: "17", 57370: "18", 57371: "19", 57372: "20", 57373: "21", 57374: "23", 57375: "24",
		57421: "5", 57422: "6", 57425: "2", 57426: "3",
	}
}

func pads() map[int]padKey {
	return map[int]padKey{
		57399: {"p", '0'}, 57400: {"q", '1'}, 57401: {"r", '2'}, 57402: {"s", '3'}, 57403: {"t", '4'},
		57404: {"u", '5'}, 57405: {"v", '6'}, 57406: {"w", '7'}, 57407: {"x", '8'}, 57408: {"y", '9'},
		57409: {"n", '.'}, 57410: {"o", '/'}, 57411: {"j", '*'}, 57412: {"m", '-'}, 57413: {"k", '+'},
		57414: {"M", 13}, 57415: {"X", '='}, 57416: {"l", ','},
	}
}

// silent are all codes of the keys that send nothing, units and modifiers; plains are those of the plain ones.
func silent() []int {
	var l []int
	for _, span := range [][2]int{{57358, 57362}, {57376, 57398}, {57428, 57440}, {57441, 57454}} {
		for code := span[0]; code <= span[1]; code++ {
			l = append(l, code)
		}
	}
	return l
}

func plains() []int {
	return []int{9, 13, 27, 127}
}

// functional are all codes of keys that aren't text.
func functional() []int {
	l := plains()
	for code := 57348; code <= 57454; code++ {
		l = append(l, code)
	}
	return l
}

// textCodes are codes of text's keys, of one to four bytes, some that fold and some that don't.
func textCodes() []int {
	var l []int
	for code := 32; code <= 126; code++ {
		l = append(l, code)
	}
	return append(l,
		160, 161, 193, 225, 233, 255, 256, 305, 383, 945, 2046, 2047,
		2048, 2049, 8364, 8490, 55295, 63744, 65279, 65313, 65345, 65533, 65535,
		65536, 65537, 65633, 128512, 1114110, 1114111,
	)
}

// isText tells whether a number is the code of a text's key.
func isText(code int) bool {
	return 32 <= code && code <= 1114111 && utf8.ValidRune(rune(code)) && (code < 127 || code > 159) && (code < 57344 || code > 63743)
}

// control is the control character of one that folds, as bytes; the place of a row is its number.
func control(c int) (string, bool) {
	rows := []string{
		" 2@", "aA", "bB", "cC", "dD", "eE", "fF", "gG", "hH", "iI", "jJ", "kK", "lL", "mM", "nN", "oO", "pP", "qQ", "rR",
		"sS", "tT", "uU", "vV", "wW", "xX", "yY", "zZ", "3[", "4\\", "5]", "6^", "7/_",
	}
	if c == '8' || c == '?' {
		return "\x7f", true
	}
	if c > 127 {
		return "", false
	}
	for i, row := range rows {
		if strings.IndexByte(row, byte(c)) >= 0 {
			return string([]byte{byte(i)}), true
		}
	}
	return "", false
}

// wantText, wantPlain, wantLetter and wantNumber are what these keys send without the escape byte ahead.
func wantText(k api.Key) string {
	shown := k.Code
	if k.Mods&1 != 0 {
		if 97 <= shown && shown <= 122 {
			shown -= 32
		}
		if k.Shifted != 0 {
			shown = k.Shifted
		}
	}
	if k.Mods&4 == 0 {
		if k.Text != "" {
			return k.Text
		}
		return string(rune(shown))
	}
	if c, ok := control(shown); ok {
		return c
	}
	return string(rune(shown))
}

func wantPlain(m api.Modes, k api.Key) string {
	shift, ctrl := k.Mods&1 != 0, k.Mods&4 != 0
	switch k.Code {
	case 9:
		if shift {
			return "\x1b[Z"
		}
		return "\t"
	case 13:
		if m.Line {
			return "\r\n"
		}
		return "\r"
	case 27:
		return "\x1b"
	}
	if m.Back && !ctrl || !m.Back && ctrl {
		return "\b"
	}
	return "\x7f"
}

func wantLetter(m api.Modes, old int, final string) string {
	if old > 0 {
		return "\x1b[1;" + strconv.Itoa(old+1) + final
	}
	if m.Cursor || final == "P" || final == "Q" || final == "R" || final == "S" {
		return "\x1bO" + final
	}
	return "\x1b[" + final
}

func wantNumber(old int, number string) string {
	if old > 0 {
		return "\x1b[" + number + ";" + strconv.Itoa(old+1) + "~"
	}
	return "\x1b[" + number + "~"
}

// teller tells what events send, by the chapter's words.
type teller struct {
	letters, numbers map[int]string
	pads             map[int]padKey
	silent           []int
}

func newTeller() teller {
	return teller{letters(), numbers(), pads(), silent()}
}

// want is what an event that may be sends.
func (w teller) want(m api.Modes, k api.Key) string {
	old := k.Mods % 8
	if k.Type == api.Release || slices.Contains(w.silent, k.Code) {
		return ""
	}
	if final, ok := w.letters[k.Code]; ok {
		return wantLetter(m, old, final)
	}
	if number, ok := w.numbers[k.Code]; ok {
		return wantNumber(old, number)
	}
	if pad, ok := w.pads[k.Code]; ok {
		if m.Keypad && old == 0 {
			return "\x1bO" + pad.final
		}
		k.Code, k.Shifted = pad.char, 0
	}
	ahead := ""
	if k.Mods&2 != 0 {
		ahead = "\x1b"
	}
	if slices.Contains(plains(), k.Code) {
		return ahead + wantPlain(m, k)
	}
	return ahead + wantText(k)
}

// states are all of the modes that keys ask.
func states() []api.Modes {
	var l []api.Modes
	for bits := range 16 {
		l = append(l, api.Modes{Line: bits&1 != 0, Back: bits&2 != 0, Cursor: bits&4 != 0, Keypad: bits&8 != 0})
	}
	return l
}

// others change the modes that no key asks, some to what may not be.
func others() []func(m *api.Modes) {
	return []func(m *api.Modes){
		func(m *api.Modes) {},
		func(m *api.Modes) { m.Focus = true },
		func(m *api.Modes) { m.Paste = true },
		func(m *api.Modes) { m.Lock = true },
		func(m *api.Modes) { m.Mouse = 1003 },
		func(m *api.Modes) { m.Coding = 1006 },
		func(m *api.Modes) { m.Other = 1 },
		func(m *api.Modes) { m.Other = 2 },
		func(m *api.Modes) {
			m.Focus, m.Paste, m.Lock, m.Mouse, m.Coding, m.Other = true, true, true, 9, 1015, 2
		},
		func(m *api.Modes) { m.Mouse, m.Coding, m.Other = -1, 7, math.MaxInt },
	}
}

// laterMods are modifiers that old forms don't know.
func laterMods() []int {
	return []int{0, api.Super, api.Hyper, api.Meta, api.Caps, api.Num, api.Caps | api.Num, 248}
}

// dress are events of a code with all that may stand beside it.
func dress(code int) []api.Key {
	return []api.Key{
		{Code: code},
		{Code: code, Text: "x"},
		{Code: code, Text: "\u00e9\u20ac\U0001F600"},
		{Code: code, Shifted: 'A'},
		{Code: code, Shifted: '1', Text: "~"},
		{Code: code, Shifted: 233},
		{Code: code, Base: 'q'},
		{Code: code, Shifted: '?', Base: 'z', Text: " "},
	}
}

func checkKey(t *testing.T, m api.Modes, k api.Key, want string) {
	t.Helper()
	if got := string(Key(m, k)); got != want {
		t.Errorf("Key(%+v, %+v) = %q, not %q", m, k, got, want)
	}
}

// checkEach sends an event with each set of old modifiers, each beside others, in each state, as a press, a repeat and a release.
func checkEach(t *testing.T, w teller, k api.Key, later []int, in []api.Modes) {
	t.Helper()
	for old := range 8 {
		for _, more := range later {
			k.Mods = old | more
			for _, m := range in {
				for k.Type = api.Press; k.Type <= api.Release; k.Type++ {
					checkKey(t, m, k, w.want(m, k))
				}
			}
		}
	}
}

// checkNothing asks an event that sends nothing in each state.
func checkNothing(t *testing.T, k api.Key) {
	t.Helper()
	for _, m := range states() {
		if got := Key(m, k); len(got) > 0 {
			t.Errorf("Key(%+v, %+v) = %q", m, k, got)
		}
	}
}

// P11.1: each key that isn't text, with all that may stand beside its code.
func TestEachFunctionalKey(t *testing.T) {
	w := newTeller()
	for _, code := range functional() {
		for i, k := range dress(code) {
			later := laterMods()
			if i > 0 {
				later = []int{0, 248}
			}
			checkEach(t, w, k, later, states())
		}
	}
}

// P11.1: text's keys, of one to four bytes, with all that may stand beside their codes.
func TestTextKeys(t *testing.T) {
	w := newTeller()
	for _, code := range textCodes() {
		for _, k := range dress(code) {
			checkEach(t, w, k, []int{0, api.Caps, 248}, []api.Modes{{}, {Line: true, Back: true, Cursor: true, Keypad: true}})
		}
	}
	for _, code := range []int{'a', 'Z', '2', '1', '?', 233, 8364, 128512} {
		checkEach(t, w, api.Key{Code: code}, laterMods(), states())
	}
}

// P11.1: each code point that is a text's key, and each number beside these that is none.
func TestEachCode(t *testing.T) {
	w := newTeller()
	known := functional()
	for code := -1000; code <= 1<<21; code++ {
		k := api.Key{Code: code, Type: api.Press, Mods: code & 255}
		switch {
		case slices.Contains(known, code):
		case isText(code):
			checkKey(t, api.Modes{}, k, w.want(api.Modes{}, k))
			k.Mods = 0
			checkKey(t, api.Modes{}, k, string(rune(code)))
		default:
			checkKey(t, api.Modes{}, k, "")
		}
		if t.Failed() {
			t.Fatal(code)
		}
	}
}

// wraps are numbers that would be n, if only their last bits were told.
func wraps(n int) []int {
	var l []int
	for _, bits := range []int{8, 16, 21, 31, 32, 33, 62} {
		l = append(l, n+1<<bits, n-1<<bits)
	}
	return append(l, n+math.MinInt)
}

// ends are very small and very great numbers.
func ends() []int {
	return []int{
		math.MinInt, math.MinInt + 1, math.MinInt32 - 1, math.MinInt32, -65536, -256, -255, -1,
		1114112, math.MaxInt32, math.MaxInt32 + 1, math.MaxUint32, math.MaxUint32 + 1, math.MaxInt - 1, math.MaxInt,
	}
}

// P11.1: codes that are no key's send nothing, whatever stands beside them.
func TestNoKeys(t *testing.T) {
	codes := slices.Concat(ends(), []int{
		0, 1, 2, 3, 7, 8, 10, 11, 12, 14, 26, 28, 31, 128, 155, 159, 55296, 57343, 57344, 57347, 57455, 57456, 60000, 63743,
	})
	for _, code := range append(functional(), 'a', 233) {
		for _, n := range wraps(code) {
			if !isText(n) {
				codes = append(codes, n)
			}
		}
	}
	for _, code := range codes {
		for i, k := range dress(code) {
			k.Mods, k.Type = i, api.Press
			checkNothing(t, k)
		}
	}
}

// each is events of each kind of key, ones that send something as a press.
func each() []api.Key {
	return []api.Key{
		{Code: 'a', Type: 1}, {Code: 'a', Mods: 1, Type: 2, Shifted: 'A', Base: 'q', Text: "A"}, {Code: '2', Mods: 6, Type: 1}, {Code: 128512, Type: 1},
		{Code: 9, Type: 1}, {Code: 9, Mods: 3, Type: 1}, {Code: 13, Type: 2}, {Code: 27, Type: 1}, {Code: 127, Mods: 4, Type: 1},
		{Code: 57352, Type: 1}, {Code: 57364, Mods: 1, Type: 1}, {Code: 57427, Type: 2, Text: "x"},
		{Code: 57348, Type: 1}, {Code: 57375, Mods: 7, Type: 1},
		{Code: 57399, Type: 1}, {Code: 57399, Mods: 2, Type: 2, Text: "0"}, {Code: 57414, Type: 1}, {Code: 57416, Mods: 4, Type: 1},
	}
}

// P11.1: an event that may not be sends nothing, whichever part of it that is.
func TestEventsThatMayNotBe(t *testing.T) {
	wrongs := []func(k *api.Key){
		func(k *api.Key) { k.Code = 0 },
		func(k *api.Key) { k.Code = 31 },
		func(k *api.Key) { k.Code = 57455 },
		func(k *api.Key) { k.Mods = -1 },
		func(k *api.Key) { k.Mods = 256 },
		func(k *api.Key) { k.Mods += 256 },
		func(k *api.Key) { k.Mods = math.MinInt },
		func(k *api.Key) { k.Mods = math.MaxInt },
		func(k *api.Key) { k.Shifted = 13 },
		func(k *api.Key) { k.Shifted = 57352 },
		func(k *api.Key) { k.Shifted = -1 },
		func(k *api.Key) { k.Shifted = 1114112 },
		func(k *api.Key) { k.Base = 9 },
		func(k *api.Key) { k.Base = 57399 },
		func(k *api.Key) { k.Base = 31 },
		func(k *api.Key) { k.Base = math.MaxInt },
		func(k *api.Key) { k.Text = "\x1b" },
		func(k *api.Key) { k.Text = "a\r" },
		func(k *api.Key) { k.Text = "\x7f" },
		func(k *api.Key) { k.Text = "\u0080" },
		func(k *api.Key) { k.Text = "a\u009f" },
		func(k *api.Key) { k.Text = "\xff" },
		func(k *api.Key) { k.Text = "\xc3" },
		func(k *api.Key) { k.Text = "123456789" },
		func(k *api.Key) { k.Text = strings.Repeat("a", 1<<16) },
	}
	for _, k := range each() {
		for _, wrong := range wrongs {
			j := k
			wrong(&j)
			checkNothing(t, j)
		}
	}
}

// P11.1: a release sends nothing, a repeat what a press does; a type that may not be sends nothing.
func TestTypes(t *testing.T) {
	w := newTeller()
	wrong := append(ends(), 0, 4, 5, 6, 7, 255, 256, 257)
	for n := api.Press; n <= api.Release; n++ {
		wrong = append(wrong, wraps(n)...)
	}
	for _, k := range each() {
		for _, m := range states() {
			k.Type = api.Press
			want := w.want(m, k)
			if want == "" {
				t.Errorf("%+v sends nothing", k)
			}
			checkKey(t, m, k, want)
			k.Type = api.Repeat
			checkKey(t, m, k, want)
		}
		for _, n := range append(wrong, api.Release, api.Motion) {
			k.Type = n
			checkNothing(t, k)
		}
	}
}

// P11.1, P11.2: the modes that no key asks change nothing, even where they may not be.
func TestModesThatNoKeyAsks(t *testing.T) {
	w := newTeller()
	for _, k := range each() {
		for _, m := range states() {
			want := w.want(m, k)
			for _, other := range others() {
				changed := m
				other(&changed)
				checkKey(t, changed, k, want)
			}
		}
	}
}

// P11.2: modifiers that old forms don't know change nothing, alone or with others of them.
func TestModifiersThatOldFormsDoNotKnow(t *testing.T) {
	for _, k := range each() {
		for _, m := range states() {
			want := string(Key(m, k))
			for later := 0; later < 256; later += 8 {
				j := k
				j.Mods += later
				checkKey(t, m, j, want)
			}
		}
	}
}

// row is an event, in some modes, and what it sends, written out.
type row struct {
	modes api.Modes
	code  int
	mods  int
	more  api.Key
	want  string
}

// checkRows sends the events of rows, as a press and as a repeat.
func checkRows(t *testing.T, rows []row) {
	t.Helper()
	for _, r := range rows {
		k := r.more
		k.Code, k.Mods = r.code, r.mods
		for _, k.Type = range []int{api.Press, api.Repeat} {
			checkKey(t, r.modes, k, r.want)
		}
		k.Type = api.Release
		checkKey(t, r.modes, k, "")
	}
}

// P11.1: a text's key sends its text without Ctrl, and what it shows without a text, or with Ctrl.
func TestTextRows(t *testing.T) {
	var none api.Modes
	var bare api.Key
	checkRows(t, []row{
		{none, 'a', 0, bare, "a"},
		{none, 'a', api.Shift, bare, "A"},
		{none, 'a', api.Caps, bare, "a"},
		{none, 'a', api.Alt, bare, "\x1ba"},
		{none, 'a', api.Alt | api.Shift, bare, "\x1bA"},
		{none, 'a', api.Ctrl, bare, "\x01"},
		{none, 'a', api.Ctrl | api.Shift, bare, "\x01"},
		{none, 'a', api.Ctrl | api.Alt, bare, "\x1b\x01"},
		{none, 'a', 7, bare, "\x1b\x01"},
		{none, 'A', 0, bare, "A"},
		{none, 'A', api.Ctrl, bare, "\x01"},
		{none, 'z', api.Ctrl, bare, "\x1a"},
		{none, ' ', api.Ctrl, bare, "\x00"},
		{none, ' ', api.Ctrl | api.Alt, bare, "\x1b\x00"},
		{none, '@', api.Ctrl, bare, "\x00"},
		{none, '[', api.Alt, bare, "\x1b["},
		{none, '[', api.Ctrl, bare, "\x1b"},
		{none, '[', api.Ctrl | api.Alt, bare, "\x1b\x1b"},
		{none, '8', api.Ctrl, bare, "\x7f"},
		{none, '?', api.Ctrl | api.Alt, bare, "\x1b\x7f"},
		{none, '1', api.Ctrl, bare, "1"},
		{none, '1', api.Ctrl | api.Alt, bare, "\x1b1"},
		{none, '1', api.Shift, bare, "1"},
		{none, 233, 0, bare, "\xc3\xa9"},
		{none, 233, 7, bare, "\x1b\xc3\xa9"},
		{none, 8364, api.Alt, bare, "\x1b\xe2\x82\xac"},
		{none, 128512, api.Ctrl, bare, "\xf0\x9f\x98\x80"},

		{none, 'a', 0, api.Key{Text: "xyz"}, "xyz"},
		{none, 'a', api.Shift, api.Key{Text: "xyz"}, "xyz"},
		{none, 'a', api.Alt, api.Key{Text: "xyz"}, "\x1bxyz"},
		{none, 'a', api.Ctrl, api.Key{Text: "xyz"}, "\x01"},
		{none, 'a', api.Ctrl | api.Alt, api.Key{Text: "xyz"}, "\x1b\x01"},
		{none, '1', api.Ctrl, api.Key{Text: "xyz"}, "1"},
		{none, 'a', api.Super, api.Key{Text: "xyz"}, "xyz"},
		{none, 'a', 0, api.Key{Text: "\u00e9\u00e9\u00e9\u00e9\u00e9\u00e9\u00e9\u00e9"}, "\u00e9\u00e9\u00e9\u00e9\u00e9\u00e9\u00e9\u00e9"},

		{none, '2', api.Shift, api.Key{Shifted: '"'}, "\""},
		{none, '2', 0, api.Key{Shifted: '"'}, "2"},
		{none, '2', api.Ctrl, api.Key{Shifted: '"'}, "\x00"},
		{none, '2', api.Ctrl | api.Shift, api.Key{Shifted: '"'}, "\""},
		{none, '1', api.Ctrl | api.Shift, api.Key{Shifted: '?'}, "\x7f"},
		{none, 'a', api.Shift, api.Key{Shifted: 233}, "\xc3\xa9"},
		{none, 'a', api.Shift | api.Ctrl, api.Key{Shifted: 233}, "\xc3\xa9"},
		{none, 'a', api.Shift, api.Key{Shifted: 'Q', Text: "x"}, "x"},
		{none, 1072, api.Ctrl, api.Key{Base: 'a'}, "\xd0\xb0"},
		{none, 'a', 0, api.Key{Base: 'q'}, "a"},
	})
}

// P11.1: tab, enter, escape and backspace, each in the states that matter to it.
func TestPlainRows(t *testing.T) {
	var none api.Modes
	line, back := api.Modes{Line: true}, api.Modes{Back: true}
	all := api.Modes{Line: true, Back: true, Cursor: true, Keypad: true}
	bare, text := api.Key{}, api.Key{Text: "x", Shifted: 'A', Base: 'q'}
	checkRows(t, []row{
		{none, 9, 0, bare, "\t"},
		{none, 9, api.Ctrl, bare, "\t"},
		{none, 9, api.Alt, bare, "\x1b\t"},
		{none, 9, api.Shift, bare, "\x1b[Z"},
		{all, 9, api.Shift | api.Ctrl, bare, "\x1b[Z"},
		{none, 9, api.Shift | api.Alt, bare, "\x1b\x1b[Z"},
		{none, 9, 7, bare, "\x1b\x1b[Z"},
		{all, 9, 0, text, "\t"},
		{none, 9, api.Shift, text, "\x1b[Z"},

		{none, 13, 0, bare, "\r"},
		{none, 13, api.Shift | api.Ctrl, bare, "\r"},
		{none, 13, api.Alt, bare, "\x1b\r"},
		{line, 13, 0, bare, "\r\n"},
		{line, 13, api.Alt, bare, "\x1b\r\n"},
		{all, 13, 7, text, "\x1b\r\n"},
		{back, 13, 0, text, "\r"},

		{none, 27, 0, bare, "\x1b"},
		{none, 27, api.Alt, bare, "\x1b\x1b"},
		{all, 27, api.Shift | api.Ctrl, text, "\x1b"},

		{none, 127, 0, bare, "\x7f"},
		{none, 127, api.Shift, bare, "\x7f"},
		{none, 127, api.Ctrl, bare, "\b"},
		{back, 127, 0, bare, "\b"},
		{back, 127, api.Shift, bare, "\b"},
		{back, 127, api.Ctrl, bare, "\x7f"},
		{none, 127, api.Alt, bare, "\x1b\x7f"},
		{none, 127, api.Alt | api.Ctrl, bare, "\x1b\b"},
		{all, 127, api.Alt, text, "\x1b\b"},
		{all, 127, 7, text, "\x1b\x7f"},
		{line, 127, 0, text, "\x7f"},
	})
}

// P11.1: keys with a letter, and with a number; a text, and Alt, stand in their parameter alone, or nowhere.
func TestLetterAndNumberRows(t *testing.T) {
	var none api.Modes
	cursor, keypad := api.Modes{Cursor: true}, api.Modes{Keypad: true, Line: true, Back: true}
	bare, text := api.Key{}, api.Key{Text: "x", Shifted: 'A', Base: 'q'}
	checkRows(t, []row{
		{none, 57352, 0, bare, "\x1b[A"},
		{cursor, 57352, 0, bare, "\x1bOA"},
		{keypad, 57352, 0, text, "\x1b[A"},
		{cursor, 57352, api.Caps | api.Num, bare, "\x1bOA"},
		{none, 57352, api.Shift, bare, "\x1b[1;2A"},
		{cursor, 57352, api.Shift, bare, "\x1b[1;2A"},
		{cursor, 57350, api.Alt, text, "\x1b[1;3D"},
		{none, 57351, api.Ctrl | api.Super, bare, "\x1b[1;5C"},
		{none, 57353, 255, bare, "\x1b[1;8B"},
		{none, 57356, 0, bare, "\x1b[H"},
		{cursor, 57357, 0, bare, "\x1bOF"},
		{none, 57364, 0, bare, "\x1bOP"},
		{none, 57365, 0, bare, "\x1bOQ"},
		{none, 57366, api.Num, bare, "\x1bOR"},
		{cursor, 57367, 0, bare, "\x1bOS"},
		{none, 57366, api.Ctrl, bare, "\x1b[1;5R"},
		{cursor, 57367, api.Alt, bare, "\x1b[1;3S"},
		{none, 57419, 0, bare, "\x1b[A"},
		{keypad, 57419, 0, bare, "\x1b[A"},
		{cursor, 57419, 0, bare, "\x1bOA"},
		{none, 57427, 0, bare, "\x1b[E"},
		{cursor, 57427, 0, text, "\x1bOE"},
		{none, 57427, api.Ctrl, bare, "\x1b[1;5E"},

		{none, 57348, 0, bare, "\x1b[2~"},
		{cursor, 57349, 0, text, "\x1b[3~"},
		{none, 57349, api.Ctrl, bare, "\x1b[3;5~"},
		{none, 57354, 255, bare, "\x1b[5;8~"},
		{keypad, 57355, api.Super, bare, "\x1b[6~"},
		{none, 57363, api.Alt, bare, "\x1b[29;3~"},
		{none, 57368, 0, bare, "\x1b[15~"},
		{none, 57375, api.Shift, bare, "\x1b[24;2~"},
		{keypad, 57426, 0, bare, "\x1b[3~"},
	})
}

// P11.1: keys of the pad, with Keypad and without; with an old modifier each is as the key of its character, without its Shifted.
func TestPadRows(t *testing.T) {
	var none api.Modes
	keypad, line, both := api.Modes{Keypad: true}, api.Modes{Line: true, Cursor: true, Back: true}, api.Modes{Keypad: true, Line: true}
	bare, text, shifted := api.Key{}, api.Key{Text: "xyz"}, api.Key{Shifted: 'A', Base: 'q'}
	checkRows(t, []row{
		{none, 57399, 0, bare, "0"},
		{line, 57404, api.Num, bare, "5"},
		{keypad, 57399, 0, bare, "\x1bOp"},
		{keypad, 57399, api.Caps | api.Num | api.Super, text, "\x1bOp"},
		{keypad, 57415, 0, shifted, "\x1bOX"},
		{keypad, 57416, 0, bare, "\x1bOl"},
		{none, 57399, 0, text, "xyz"},
		{none, 57399, api.Alt, text, "\x1bxyz"},
		{keypad, 57399, api.Alt, text, "\x1bxyz"},
		{keypad, 57399, api.Shift, text, "xyz"},
		{keypad, 57399, api.Ctrl, text, "0"},
		{keypad, 57401, api.Ctrl, text, "\x00"},
		{none, 57402, api.Ctrl | api.Alt, bare, "\x1b\x1b"},
		{none, 57407, api.Ctrl, bare, "\x7f"},
		{none, 57410, api.Ctrl, bare, "\x1f"},
		{none, 57411, api.Ctrl, bare, "*"},
		{none, 57409, api.Shift, shifted, "."},
		{keypad, 57409, api.Shift, shifted, "."},
		{keypad, 57409, api.Shift | api.Ctrl, shifted, "."},
		{none, 57407, api.Shift | api.Ctrl, shifted, "\x7f"},
		{none, 57412, api.Alt, bare, "\x1b-"},
		{keypad, 57413, api.Alt, bare, "\x1b+"},

		{none, 57414, 0, bare, "\r"},
		{line, 57414, 0, text, "\r\n"},
		{keypad, 57414, 0, bare, "\x1bOM"},
		{both, 57414, 0, text, "\x1bOM"},
		{both, 57414, api.Shift, bare, "\r\n"},
		{keypad, 57414, api.Ctrl, shifted, "\r"},
		{none, 57414, api.Alt, text, "\x1b\r"},
		{both, 57414, api.Alt, text, "\x1b\r\n"},
	})
}

// P11.1: units and modifiers send nothing, even with a text.
func TestSilentKeys(t *testing.T) {
	for _, code := range silent() {
		for old := range 8 {
			for _, k := range dress(code) {
				k.Mods, k.Type = old, api.Press
				checkNothing(t, k)
			}
		}
	}
}

// isOneText tells whether bytes are text, one control character, or the bytes of enter.
func isOneText(b []byte) bool {
	if len(b) == 1 && (b[0] < 32 || b[0] == 127) || string(b) == "\r\n" {
		return true
	}
	isControl := func(r rune) bool { return r < 32 || 127 <= r && r <= 159 }
	return len(b) > 0 && utf8.Valid(b) && !strings.ContainsFunc(string(b), isControl)
}

// checkSent holds what is sent against what may be: one sequence, or text, each with an escape byte ahead, or not.
func checkSent(t *testing.T, m api.Modes, k api.Key) {
	t.Helper()
	sent := Key(m, k)
	if len(sent) == 0 || isOneText(sent) {
		return
	}
	if _, n, err := wire.Take(sent); err == api.OK && n == len(sent) {
		return
	}
	ahead := sent[0] == 27 && k.Mods&api.Alt != 0
	if s, n, _ := wire.Take(sent[1:]); ahead && n == len(sent)-1 && s.Kind == api.CSI && s.Final == 'Z' && k.Code == 9 {
		return
	}
	if !ahead || !isOneText(sent[1:]) {
		t.Errorf("Key(%+v, %+v) = %q", m, k, sent)
	}
}

// P11.2: what is sent is text, with an escape byte ahead, or not, or one sequence.
func TestWhatIsSent(t *testing.T) {
	for _, code := range append(functional(), textCodes()...) {
		for _, k := range dress(code) {
			k.Type = api.Press
			for k.Mods = range 8 {
				for _, m := range states() {
					checkSent(t, m, k)
				}
			}
		}
	}
}

// P11.1: a key of the pad sends what the key of its character does, but with Keypad.
func TestPadIsAsItsCharacter(t *testing.T) {
	for code, pad := range pads() {
		for _, k := range dress(code) {
			k.Type = api.Repeat
			as := k
			as.Code, as.Shifted = pad.char, 0
			for n := range 256 {
				k.Mods, as.Mods = n, n
				for _, m := range states() {
					if !m.Keypad || mods.Old(n) != 0 {
						checkKey(t, m, k, string(Key(m, as)))
					}
				}
			}
		}
	}
}

// The chapter's examples.
func TestExamples(t *testing.T) {
	checkKey(t, api.Modes{}, api.Key{Code: 'c', Mods: api.Ctrl, Type: api.Press}, "\x03")
	checkKey(t, api.Modes{Cursor: true}, api.Key{Code: 57352, Type: api.Press}, "\x1bOA")
	checkKey(t, api.Modes{Cursor: true}, api.Key{Code: 57352, Mods: api.Shift, Type: api.Press}, "\x1b[1;2A")
}

// R3: what is told is the caller's own: nothing that is done to it is to be seen in another answer.
func TestAnswersAreNotShared(t *testing.T) {
	w := newTeller()
	for _, m := range states() {
		for _, k := range each() {
			want := w.want(m, k)
			first, second := Key(m, k), Key(m, k)
			for i := range first {
				first[i] = '#'
			}
			first = append(first, "more"...)
			if string(second) != want {
				t.Errorf("%+v: %q became %q", k, want, second)
			}
			checkKey(t, m, k, want)
		}
	}
}

// R3: what is handed in stays as it is.
func TestWhatIsHandedInStays(t *testing.T) {
	for _, m := range states() {
		for _, k := range each() {
			wasModes, wasKey := m, k
			wasKey.Text = strings.Clone(k.Text)
			sent := Key(m, k)
			for i := range sent {
				sent[i] = '#'
			}
			if m != wasModes || k != wasKey {
				t.Errorf("%+v, %+v became %+v, %+v", wasModes, wasKey, m, k)
			}
		}
	}
}

// R4: nothing is kept from call to call: in any order of calls each is told what it is told alone.
func TestNothingIsKept(t *testing.T) {
	w := newTeller()
	events, in := each(), states()
	for i := range 20000 {
		k, m := events[i*7%len(events)], in[i*5%len(in)]
		if i%3 == 0 {
			checkKey(t, m, api.Key{Code: 'a', Mods: 2, Type: 4, Text: "x"}, "")
		}
		checkKey(t, m, k, w.want(m, k))
	}
}

// P1: every call ends, and none panics, at numbers and texts of all kinds.
func TestNoCallPanics(t *testing.T) {
	var l []int
	for bit := range 64 {
		for add := -2; add <= 2; add++ {
			l = append(l, 1<<bit+add, -(1<<bit + add))
		}
	}
	texts := []string{"", "a", "\x00", "\xff", "\xf4\x8f\xbf", strings.Repeat("a", 1<<20)}
	in := states()
	for i, n := range l {
		other := l[len(l)-1-i]
		m := in[i%len(in)]
		m.Mouse, m.Coding, m.Other = n, other, n
		for _, text := range texts {
			for _, k := range []api.Key{
				{Code: n, Mods: other, Type: 1, Shifted: n, Base: other, Text: text},
				{Code: 97, Mods: n, Type: other, Shifted: other, Base: n, Text: text},
				{Code: 57399, Mods: n, Type: 1, Shifted: other, Text: text},
				{Code: other, Mods: 255, Type: n, Text: text},
				{Code: n, Mods: 255, Type: 1, Shifted: other, Base: n, Text: text},
			} {
				if sent := Key(m, k); len(sent) > 0 && !mods.May(k) {
					t.Errorf("Key of %d, %d, %d, %d = %q", k.Code, k.Mods, k.Type, k.Shifted, sent)
				}
			}
		}
	}
}
