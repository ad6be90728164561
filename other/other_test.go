package other

import (
	"math"
	"regexp"
	"slices"
	"strconv"
	"strings"
	"testing"
	"unicode/utf8"

	"clavier/api"
	"clavier/wire"
)

// The calls are as the chapter has them.
var (
	_ func(api.Modes, api.Key) ([]byte, bool) = Key
	_ func([]byte) (int, int, bool)           = Back
)

// folding are the characters that have a control character.
const folding = " /2345678?@ABCDEFGHIJKLMNOPQRSTUVWXYZ[\\]^_abcdefghijklmnopqrstuvwxyz"

// isText tells whether a number is the code of a text's key, isPlain whether it is a plain one.
func isText(code int) bool {
	return 32 <= code && code <= 1114111 && utf8.ValidRune(rune(code)) && (code < 127 || code > 159) && (code < 57344 || code > 63743)
}

func isPlain(code int) bool {
	return code == 9 || code == 13 || code == 27 || code == 127
}

// shown is the character that a text's key shows.
func shown(k api.Key) int {
	if k.Mods%2 == 0 {
		return k.Code
	}
	if k.Shifted > 0 {
		return k.Shifted
	}
	if 97 <= k.Code && k.Code <= 122 {
		return k.Code - 32
	}
	return k.Code
}

// isToldAtOne is whether level 1 tells what level 2 does of a text's key, or of a plain one.
func isToldAtOne(k api.Key) bool {
	if k.Mods&4 == 0 {
		return false
	}
	if isPlain(k.Code) {
		return k.Code == 9 || k.Code == 13
	}
	return k.Mods&1 != 0 || !strings.ContainsRune(folding, rune(shown(k)))
}

// told is CSI 27;p;c ~.
func told(p, c int) string {
	return "\x1b[27;" + strconv.Itoa(p) + ";" + strconv.Itoa(c) + "~"
}

// want is what an event that may be sends at a level, by the chapter's words; empty, if nothing.
func want(level int, k api.Key) string {
	old := k.Mods % 8
	if level != 1 && level != 2 || k.Type == 3 || old == 0 || !isPlain(k.Code) && !isText(k.Code) {
		return ""
	}
	if isText(k.Code) && old == 1 || level == 1 && !isToldAtOne(k) {
		return ""
	}
	if isPlain(k.Code) {
		return told(old+1, k.Code)
	}
	return told(old+1, shown(k))
}

// checkKey ends the test at the first answer that isn't as it ought to be; nothing is wanted where want is empty.
func checkKey(t *testing.T, m api.Modes, k api.Key, want string) {
	t.Helper()
	got, ok := Key(m, k)
	if string(got) != want || ok != (want != "") {
		t.Fatalf("Key(%+v, %+v) = %q, %v, not %q", m, k, got, ok, want)
	}
}

// checkNothing asks an event that has no sequence, at all levels and beside them.
func checkNothing(t *testing.T, k api.Key) {
	t.Helper()
	for level := -1; level <= 3; level++ {
		checkKey(t, api.Modes{Other: level}, k, "")
	}
}

// checkLevels holds an event against the chapter, at all levels and beside them.
func checkLevels(t *testing.T, k api.Key) {
	t.Helper()
	for level := -1; level <= 3; level++ {
		checkKey(t, api.Modes{Other: level}, k, want(level, k))
	}
}

// checkEach asks an event with all modifiers and each type.
func checkEach(t *testing.T, k api.Key) {
	t.Helper()
	for k.Mods = range 256 {
		for k.Type = api.Press; k.Type <= api.Release; k.Type++ {
			checkLevels(t, k)
		}
	}
}

// dress are events of a code with all that may stand beside it.
func dress(code int) []api.Key {
	return []api.Key{
		{Code: code},
		{Code: code, Text: "x"},
		{Code: code, Text: "\u00e9\u20ac\U0001F600"},
		{Code: code, Shifted: 'A'},
		{Code: code, Shifted: '1', Text: "~"},
		{Code: code, Shifted: 233},
		{Code: code, Shifted: 128512},
		{Code: code, Base: 'q'},
		{Code: code, Shifted: '?', Base: '1', Text: " "},
	}
}

// textCodes are codes of text's keys, of one to four bytes, some that fold and some that don't.
func textCodes() []int {
	var l []int
	for code := 32; code <= 126; code++ {
		l = append(l, code)
	}
	return append(l,
		160, 161, 193, 225, 233, 255, 256, 305, 353, 383, 1072, 2046, 2047,
		2048, 2049, 8364, 8490, 55295, 63744, 65279, 65313, 65345, 65533, 65535,
		65536, 65537, 65633, 128512, 1114110, 1114111,
	)
}

// otherKeys are all codes of keys that are neither text nor plain.
func otherKeys() []int {
	var l []int
	for code := 57348; code <= 57454; code++ {
		l = append(l, code)
	}
	return l
}

// wraps are numbers that would be n, if only their last bits were told.
func wraps(n int) []int {
	l := []int{n + math.MinInt}
	for _, bits := range []int{8, 16, 21, 31, 32, 33, 62} {
		l = append(l, n+1<<bits, n-1<<bits)
	}
	return l
}

// ends are very small and very great numbers.
func ends() []int {
	return []int{
		math.MinInt, math.MinInt + 1, math.MinInt32 - 1, math.MinInt32, -65536, -256, -255, -1,
		1114112, math.MaxInt32, math.MaxInt32 + 1, math.MaxUint32, math.MaxUint32 + 1, math.MaxInt - 1, math.MaxInt,
	}
}

// P12.1: events, and what they send with Other 1 and with Other 2, written out.
func TestKeyRows(t *testing.T) {
	const shift, alt, ctrl = api.Shift, api.Alt, api.Ctrl
	for _, r := range []struct {
		code, mods, shifted int
		one, two            string
	}{
		{'i', ctrl, 0, "", "\x1b[27;5;105~"},
		{'i', 0, 0, "", ""},
		{'i', shift, 0, "", ""},
		{'i', alt, 0, "", "\x1b[27;3;105~"},
		{'i', shift | alt, 0, "", "\x1b[27;4;73~"},
		{'i', shift | ctrl, 0, "\x1b[27;6;73~", "\x1b[27;6;73~"},
		{'i', alt | ctrl, 0, "", "\x1b[27;7;105~"},
		{'i', shift | alt | ctrl, 0, "\x1b[27;8;73~", "\x1b[27;8;73~"},
		{'I', ctrl, 0, "", "\x1b[27;5;73~"},
		{'i', ctrl | api.Super, 0, "", "\x1b[27;5;105~"},
		{'i', shift | api.Caps | api.Num, 0, "", ""},
		{'i', 255, 0, "\x1b[27;8;73~", "\x1b[27;8;73~"},
		{'i', 248, 0, "", ""},

		{'1', ctrl, 0, "\x1b[27;5;49~", "\x1b[27;5;49~"},
		{'1', ctrl | alt, 0, "\x1b[27;7;49~", "\x1b[27;7;49~"},
		{'1', alt, 0, "", "\x1b[27;3;49~"},
		{'1', shift, '!', "", ""},
		{'1', shift | ctrl, '!', "\x1b[27;6;33~", "\x1b[27;6;33~"},
		{'1', ctrl, '!', "\x1b[27;5;49~", "\x1b[27;5;49~"},
		{'1', shift | ctrl, '?', "\x1b[27;6;63~", "\x1b[27;6;63~"},
		{'2', ctrl, 0, "", "\x1b[27;5;50~"},
		{'2', ctrl, 233, "", "\x1b[27;5;50~"},
		{'2', shift | ctrl, 233, "\x1b[27;6;233~", "\x1b[27;6;233~"},
		{'2', shift | alt, 233, "", "\x1b[27;4;233~"},
		{' ', ctrl, 0, "", "\x1b[27;5;32~"},
		{' ', shift | ctrl, 0, "\x1b[27;6;32~", "\x1b[27;6;32~"},
		{'?', ctrl, 0, "", "\x1b[27;5;63~"},
		{'~', ctrl, 0, "\x1b[27;5;126~", "\x1b[27;5;126~"},
		{233, ctrl, 0, "\x1b[27;5;233~", "\x1b[27;5;233~"},
		{233, shift, 201, "", ""},
		{233, shift | ctrl, 201, "\x1b[27;6;201~", "\x1b[27;6;201~"},
		{8364, ctrl, 0, "\x1b[27;5;8364~", "\x1b[27;5;8364~"},
		{8364, alt, 0, "", "\x1b[27;3;8364~"},
		{1114111, ctrl, 0, "\x1b[27;5;1114111~", "\x1b[27;5;1114111~"},

		{9, 0, 0, "", ""},
		{9, shift, 0, "", "\x1b[27;2;9~"},
		{9, alt, 0, "", "\x1b[27;3;9~"},
		{9, ctrl, 0, "\x1b[27;5;9~", "\x1b[27;5;9~"},
		{9, shift | ctrl, 'A', "\x1b[27;6;9~", "\x1b[27;6;9~"},
		{13, shift, 'A', "", "\x1b[27;2;13~"},
		{13, shift | alt, 0, "", "\x1b[27;4;13~"},
		{13, ctrl, 0, "\x1b[27;5;13~", "\x1b[27;5;13~"},
		{13, 255, 0, "\x1b[27;8;13~", "\x1b[27;8;13~"},
		{27, 248, 0, "", ""},
		{27, shift, 0, "", "\x1b[27;2;27~"},
		{27, ctrl, 0, "", "\x1b[27;5;27~"},
		{27, shift | alt | ctrl, 0, "", "\x1b[27;8;27~"},
		{127, shift, 0, "", "\x1b[27;2;127~"},
		{127, ctrl, 0, "", "\x1b[27;5;127~"},
		{127, shift | ctrl, 'A', "", "\x1b[27;6;127~"},

		{57352, ctrl, 0, "", ""},
		{57348, shift | ctrl, 0, "", ""},
		{57399, ctrl, 0, "", ""},
		{57414, ctrl, 0, "", ""},
		{57358, ctrl, 0, "", ""},
		{57442, ctrl, 0, "", ""},
		{57344, ctrl, 0, "", ""},
		{0, ctrl, 0, "", ""},
	} {
		k := api.Key{Code: r.code, Mods: r.mods, Shifted: r.shifted}
		for _, k.Type = range []int{api.Press, api.Repeat} {
			checkKey(t, api.Modes{}, k, "")
			checkKey(t, api.Modes{Other: 1}, k, r.one)
			checkKey(t, api.Modes{Other: 2}, k, r.two)
		}
		k.Type = api.Release
		checkNothing(t, k)
	}
}

// P12.1: the plain keys, with all that may stand beside their codes; Shifted is not their character.
func TestPlainKeys(t *testing.T) {
	for _, code := range []int{9, 13, 27, 127} {
		for _, k := range dress(code) {
			checkEach(t, k)
		}
	}
}

// P12.1: text's keys, of one to four bytes, with all that may stand beside their codes.
func TestTextKeys(t *testing.T) {
	for _, code := range textCodes() {
		for _, k := range dress(code) {
			checkEach(t, k)
		}
	}
}

// P12.1: keys of all other kinds have no sequence.
func TestOtherKinds(t *testing.T) {
	for _, code := range otherKeys() {
		for _, k := range dress(code) {
			for k.Mods = range 256 {
				k.Type = 1 + k.Mods%2
				checkNothing(t, k)
			}
		}
	}
}

// P12.1: each code, and each number beside the codes, with modifiers in turn.
func TestEachCode(t *testing.T) {
	for code := -1000; code <= 1<<21; code++ {
		for level := 1; level <= 2; level++ {
			k := api.Key{Code: code, Mods: api.Ctrl, Type: api.Press}
			if level == 2 {
				k.Mods = code & 255
			}
			checkKey(t, api.Modes{Other: level}, k, want(level, k))
		}
	}
}

// P12.1: each code up to a number behind all that aren't text, with each set of old modifiers.
func TestEachLowCode(t *testing.T) {
	for code := -100; code <= 64000; code++ {
		k := api.Key{Code: code, Type: api.Press}
		for k.Mods = range 8 {
			checkKey(t, api.Modes{Other: 1}, k, want(1, k))
			checkKey(t, api.Modes{Other: 2}, k, want(2, k))
		}
	}
}

// P12.1: each character as Shifted, and each number beside these.
func TestEachShifted(t *testing.T) {
	for c := -1000; c <= 1<<21; c++ {
		k := api.Key{Code: '1', Mods: api.Shift | api.Ctrl, Type: api.Press, Shifted: c}
		sequence := ""
		if isText(c) {
			sequence = told(6, c)
		} else if c == 0 {
			sequence = told(6, '1')
		}
		checkKey(t, api.Modes{Other: 1 + c&1}, k, sequence)
	}
}

// each is events that are told with Other 2, some with Other 1, too.
func each() []api.Key {
	return []api.Key{
		{Code: 'a', Mods: 4, Type: 1}, {Code: 'a', Mods: 5, Type: 2, Shifted: 'A', Base: 'q', Text: "A"}, {Code: '2', Mods: 6, Type: 1},
		{Code: '1', Mods: 4, Type: 1, Text: "xyz"}, {Code: 233, Mods: 5, Type: 1, Shifted: 201}, {Code: 128512, Mods: 255, Type: 2},
		{Code: 9, Mods: 4, Type: 1}, {Code: 9, Mods: 1, Type: 1}, {Code: 13, Mods: 7, Type: 2, Shifted: 'A'}, {Code: 27, Mods: 4, Type: 1},
		{Code: 127, Mods: 67, Type: 1, Text: "x", Base: 'a'},
	}
}

// P12.1: a number that is no level tells nothing, however near to one it is, or wrapped round onto one.
func TestLevelsThatMayNotBe(t *testing.T) {
	levels := append(ends(), -2, 3, 4, 5, 6, 7, 8, 27, 255, 256, 257, 258)
	for n := range 3 {
		levels = append(levels, wraps(n)...)
	}
	for _, k := range each() {
		if want(2, k) == "" {
			t.Fatalf("%+v sends nothing", k)
		}
		for _, level := range append(levels, 0) {
			checkKey(t, api.Modes{Other: level}, k, "")
		}
	}
}

// P12.1: events that may not be, for each reason, have no sequence.
func TestEventsThatMayNotBe(t *testing.T) {
	for _, wrong := range []func(k *api.Key){
		func(k *api.Key) { k.Code = 0 },
		func(k *api.Key) { k.Code = 8 },
		func(k *api.Key) { k.Code = 128 },
		func(k *api.Key) { k.Code = 55296 },
		func(k *api.Key) { k.Code = 57344 },
		func(k *api.Key) { k.Code = 1114112 },
		func(k *api.Key) { k.Code = -k.Code },
		func(k *api.Key) { k.Code += 1 << 32 },
		func(k *api.Key) { k.Mods = -1 },
		func(k *api.Key) { k.Mods -= 256 },
		func(k *api.Key) { k.Mods += 256 },
		func(k *api.Key) { k.Mods += 1 << 32 },
		func(k *api.Key) { k.Mods = math.MaxInt },
		func(k *api.Key) { k.Shifted = 13 },
		func(k *api.Key) { k.Shifted = 57352 },
		func(k *api.Key) { k.Shifted = -1 },
		func(k *api.Key) { k.Shifted = 1114112 },
		func(k *api.Key) { k.Shifted = 'A' + 1<<32 },
		func(k *api.Key) { k.Base = 9 },
		func(k *api.Key) { k.Base = 57399 },
		func(k *api.Key) { k.Base = 31 },
		func(k *api.Key) { k.Base = math.MaxInt },
		func(k *api.Key) { k.Text = "\x1b" },
		func(k *api.Key) { k.Text = "a\r" },
		func(k *api.Key) { k.Text = "\x7f" },
		func(k *api.Key) { k.Text = "\u0080" },
		func(k *api.Key) { k.Text = "\xff" },
		func(k *api.Key) { k.Text = "\xc3" },
		func(k *api.Key) { k.Text = "123456789" },
		func(k *api.Key) { k.Text = strings.Repeat("a", 1<<16) },
	} {
		for _, k := range each() {
			wrong(&k)
			checkNothing(t, k)
		}
	}
}

// P12.1: a repeat is told as a press; a release, and a type that may not be, are not told.
func TestTypes(t *testing.T) {
	wrong := append(ends(), 0, api.Release, api.Motion, 5, 6, 7, 8, 255, 256, 257)
	for n := api.Press; n <= api.Release; n++ {
		wrong = append(wrong, wraps(n)...)
	}
	for _, k := range each() {
		for _, k.Type = range []int{api.Press, api.Repeat} {
			checkLevels(t, k)
		}
		for _, k.Type = range wrong {
			checkNothing(t, k)
		}
	}
}

// states are modes beside Other, some with numbers that may not be.
func states() []api.Modes {
	l := []api.Modes{
		{Mouse: 1003, Coding: 1006}, {Mouse: 9, Coding: 1015}, {Mouse: 2, Coding: 1}, {Mouse: -1, Coding: math.MaxInt},
	}
	for bits := range 128 {
		l = append(l, api.Modes{
			Cursor: bits&1 != 0, Keypad: bits&2 != 0, Back: bits&4 != 0, Focus: bits&8 != 0,
			Paste: bits&16 != 0, Lock: bits&32 != 0, Line: bits&64 != 0,
		})
	}
	return l
}

// P12.1: no mode but Other is asked, not even whether it may be.
func TestModesThatAreNotAsked(t *testing.T) {
	for _, k := range each() {
		for _, m := range states() {
			for m.Other = -1; m.Other <= 3; m.Other++ {
				checkKey(t, m, k, want(m.Other, k))
			}
		}
	}
}

// P12.1: modifiers that old forms don't know change nothing, beside each set of old ones.
func TestModifiersThatOldFormsDoNotKnow(t *testing.T) {
	for _, code := range []int{'a', '1', '2', 233, 9, 13, 27, 127, 57352, 57399} {
		for old := range 8 {
			k := api.Key{Code: code, Mods: old, Type: api.Press, Shifted: 'Q'}
			for _, m := range []api.Modes{{Other: 1}, {Other: 2}} {
				sequence, _ := Key(m, k)
				for later := 0; later < 256; later += 8 {
					j := k
					j.Mods += later
					checkKey(t, m, j, string(sequence))
				}
			}
		}
	}
}

// P12.3: what is told with Other 1 is told with Other 2 alike; and what is told is told back as the character, and the old modifiers.
func TestThereAndBack(t *testing.T) {
	count := 0
	for _, code := range append(textCodes(), 9, 13, 27, 127) {
		for _, k := range dress(code) {
			k.Type = api.Press
			for k.Mods = range 256 {
				two, ok := Key(api.Modes{Other: 2}, k)
				if one, told := Key(api.Modes{Other: 1}, k); told && !slices.Equal(one, two) {
					t.Fatalf("%+v: %q with 1, %q with 2", k, one, two)
				}
				if !ok {
					continue
				}
				count++
				character := k.Code
				if isText(k.Code) {
					character = shown(k)
				}
				checkBack(t, string(two), character, k.Mods%8, true)
			}
		}
	}
	if count < 100000 {
		t.Errorf("only %d events were told", count)
	}
}

// checkBack ends the test at the first answer that isn't as it ought to be.
func checkBack(t *testing.T, b string, c, n int, ok bool) {
	t.Helper()
	if gotC, gotN, got := Back([]byte(b)); gotC != c || gotN != n || got != ok {
		t.Fatalf("Back(%q) = %d, %d, %v, not %d, %d, %v", b, gotC, gotN, got, c, n, ok)
	}
}

// backForm is CSI 27;p;c ~, with p from 2 to 8, and figures without noughts ahead.
var backForm = regexp.MustCompile(`\A\x1b\[27;([2-8]);(0|[1-9][0-9]{0,6})~\z`)

// checkBytes holds Back of any bytes against the chapter.
func checkBytes(t *testing.T, b string) {
	t.Helper()
	found := backForm.FindStringSubmatch(b)
	if found == nil {
		checkBack(t, b, 0, 0, false)
		return
	}
	p, _ := strconv.Atoi(found[1])
	c, _ := strconv.Atoi(found[2])
	if c > 1114111 {
		checkBack(t, b, 0, 0, false)
		return
	}
	checkBack(t, b, c, p-1, true)
}

// P12.2: bytes, and what they are told back as, written out.
func TestBackRows(t *testing.T) {
	for _, r := range []struct {
		b    string
		c, n int
	}{
		{"\x1b[27;5;105~", 105, 4},
		{"\x1b[27;2;9~", 9, 1},
		{"\x1b[27;8;65~", 65, 7},
		{"\x1b[27;3;0~", 0, 2},
		{"\x1b[27;4;27~", 27, 3},
		{"\x1b[27;6;1114111~", 1114111, 5},
		{"\x1b[27;7;57352~", 57352, 6},
		{"\x1b[27;5;55296~", 55296, 4},
	} {
		checkBack(t, r.b, r.c, r.n, true)
	}
}

// P12.2: bytes that are nearly such a sequence are told back as nothing.
func TestBackOfOtherBytes(t *testing.T) {
	for _, b := range []string{
		"", "a", "\x1b", "\x1b[", "\x1b[~", "~", "27;5;105~", "[27;5;105~",
		"\x1b[27;5;105~~", "\x1b[27;5;105~\x00", "\x1b[27;5;105~\x1b", "\x1b[27;5;105~\x1b[27;5;105~", "a\x1b[27;5;105~", "\x1b\x1b[27;5;105~",
		"\x1b[27;5;105;1~", "\x1b[27;5;105;~", "\x1b[27;5;105;0~", "\x1b[;27;5;105~", "\x1b[27;5;105;1;1;1;1;1;1;1;1;1;1;1;1;1~",
		"\x1b[27;5~", "\x1b[27~", "\x1b[5;105~", "\x1b[27;105~", "\x1b[;;~",
		"\x1b[27:5;5;105~", "\x1b[27;5:1;105~", "\x1b[27;5;105:1~", "\x1b[27;5;105:~", "\x1b[27:;5;105~", "\x1b[27;5:;105~", "\x1b[27;5;:105~", "\x1b[27;5:105~",
		"\x1b[26;5;105~", "\x1b[28;5;105~", "\x1b[2;5;105~", "\x1b[7;5;105~", "\x1b[0;5;105~", "\x1b[;5;105~", "\x1b[1;5;105~", "\x1b[65563;5;105~", "\x1b[283;5;105~",
		"\x1b[27;0;105~", "\x1b[27;1;105~", "\x1b[27;9;105~", "\x1b[27;10;105~", "\x1b[27;16;105~", "\x1b[27;256;105~", "\x1b[27;257;105~", "\x1b[27;258;105~",
		"\x1b[27;65541;105~", "\x1b[27;1114111;105~", "\x1b[27;;105~",
		"\x1b[27;5;~", "\x1b[27;5;1114112~", "\x1b[27;5;11141110~", "\x1b[27;5;4294967296~", "\x1b[27;5;18446744073709551721~", "\x1b[27;5;-1~",
		"\x1b[27;5;0105~", "\x1b[27;05;105~", "\x1b[027;5;105~", "\x1b[27;5;00~",
		"\x1b[27;5;105u", "\x1b[27;5;105A", "\x1b[27;5;105}", "\x1b[27;5;105@", "\x1b[27;5;105m", "\x1b[27;5;105\x7f",
		"\x1b[?27;5;105~", "\x1b[>27;5;105~", "\x1b[<27;5;105~", "\x1b[=27;5;105~",
		"\x1b[27;5;105 ~", "\x1b[27;5;105$~", "\x1b[27;5;105!!~", "\x1b[ 27;5;105~", "\x1b[27; 5;105~", "\x1b[27;5;105\n~",
		"\x1bO~", "\x1bO27;5;105~", "\x1bP27;5;105~\x1b\\", "\x1bP27;5;105~", "\x1b]27;5;105~\x1b\\", "\x1b~", "\x1b27;5;105~", "\x9b27;5;105~",
		"\x1b[105;5u", "\x1b[3;5~", "\x1b[1;5A",
	} {
		checkBack(t, b, 0, 0, false)
	}
}

// P12.2: each number of the modifiers, beside each kind of character's number.
func TestBackOfEachNumber(t *testing.T) {
	for p := -2; p <= 1100; p++ {
		for _, c := range []int{-1, 0, 1, 9, 31, 32, 97, 128, 65536, 1114111, 1114112, 1114121} {
			checkBytes(t, told(p, c))
		}
	}
	for c := -2; c <= 1114200; c++ {
		checkBytes(t, told(2+c&7, c))
	}
	for _, n := range append(ends(), wraps(5)...) {
		checkBytes(t, told(n, 105))
		checkBytes(t, told(5, n))
	}
	for n := -1; n <= 70000; n++ {
		checkBytes(t, "\x1b["+strconv.Itoa(n)+";5;105~")
	}
}

// P12.2: sequences cut short at each place, and with each byte changed, left out, or put between.
func TestBackOfChangedBytes(t *testing.T) {
	for _, b := range []string{"\x1b[27;5;105~", "\x1b[27;2;9~", "\x1b[27;8;1114111~", "\x1b[27;3;0~"} {
		for at := range b {
			checkBack(t, b[:at], 0, 0, false)
			checkBack(t, b[at+1:], 0, 0, false)
			checkBytes(t, b[:at]+b[at+1:])
			for c := range 256 {
				between := string([]byte{byte(c)})
				checkBytes(t, b[:at]+between+b[at+1:])
				checkBytes(t, b[:at]+between+b[at:])
			}
		}
		for c := range 256 {
			checkBack(t, b+string([]byte{byte(c)}), 0, 0, false)
		}
	}
}

// P12.2: sequences that differ from such a one in one field, or in more, as wire.Put tells them.
func TestBackOfOtherSequences(t *testing.T) {
	right := api.Seq{Kind: api.CSI, Params: [][]int{{27}, {5}, {105}}, Final: '~'}
	params := [][][]int{
		right.Params, nil, {{27}}, {{27}, {5}}, {{27}, {5}, {-1}}, {{27}, {-1}, {105}}, {{-1}, {5}, {105}}, {{27}, {5}, {105}, {-1}}, {{27}, {5}, {105}, {1}},
		{{27, 1}, {5}, {105}}, {{27, -1}, {5}, {105}}, {{27}, {5, 1}, {105}}, {{27}, {5}, {105, 1}}, {{27}, {5}, {105, -1}}, {{27}, {5}, {-1, 105}}, {{27, 5, 105}},
		{{5}, {27}, {105}}, {{27}, {1}, {105}}, {{27}, {9}, {105}}, {{0}, {5}, {105}},
	}
	taken := 0
	for kind := api.CSI; kind <= api.ESC; kind++ {
		for _, private := range []byte{0, '<', '=', '>', '?'} {
			for _, inter := range []string{"", " ", "!", "$$"} {
				for _, final := range []byte{0, '@', 'A', 'u', '}', '~'} {
					for i, p := range params {
						s := api.Seq{Kind: kind, Private: private, Params: p, Inter: inter, Final: final}
						b, err := wire.Put(s)
						if err != api.OK {
							continue
						}
						taken++
						if i == 0 && wire.Same(s, right) {
							checkBack(t, string(b), 105, 4, true)
						} else {
							checkBack(t, string(b), 0, 0, false)
						}
					}
				}
			}
		}
	}
	if taken < 1000 {
		t.Errorf("only %d sequences may be", taken)
	}
}

// R2: of no bytes, nil or empty, nothing is told back.
func TestBackOfNoBytes(t *testing.T) {
	for _, b := range [][]byte{nil, {}} {
		if c, n, ok := Back(b); c != 0 || n != 0 || ok {
			t.Errorf("Back of no bytes = %d, %d, %v", c, n, ok)
		}
	}
}

// The chapter's example.
func TestExample(t *testing.T) {
	checkKey(t, api.Modes{Other: 2}, api.Key{Code: 'i', Mods: api.Ctrl, Type: api.Press}, "\x1b[27;5;105~")
}

// R1, R3: what is told is the caller's own, and the same twice; beside a false it is nothing.
func TestAnswersAreNotShared(t *testing.T) {
	for _, k := range each() {
		for level := range 4 {
			m := api.Modes{Other: level}
			first, _ := Key(m, k)
			second, ok := Key(m, k)
			for i := range first {
				first[i] = '#'
			}
			first = append(first, "more"...)
			if string(second) != want(level, k) || !ok && second != nil {
				t.Errorf("%+v, %+v: %q", m, k, second)
			}
			checkKey(t, m, k, want(level, k))
		}
	}
}

// R3: what is handed in stays as it is, to its capacity's end.
func TestWhatIsHandedInStays(t *testing.T) {
	for _, k := range each() {
		m := api.Modes{Other: 2, Mouse: 1003}
		wasModes, wasKey := m, k
		wasKey.Text = strings.Clone(k.Text)
		sent, _ := Key(m, k)
		if m != wasModes || k != wasKey {
			t.Errorf("%+v, %+v became %+v, %+v", wasModes, wasKey, m, k)
		}
		for _, end := range []string{"", "~", ";1"} {
			room := append(slices.Clone(sent), end+"more"...)
			was := slices.Clone(room)
			b := room[:len(sent)+len(end)]
			for range 2 {
				if _, _, ok := Back(b); ok != (end == "") || !slices.Equal(room, was) {
					t.Errorf("Back(%q) = %v, and left %q of %q", b, ok, room, was)
				}
			}
		}
	}
}

// R4: nothing is kept from call to call: in any order of calls each is told what it is told alone.
func TestNothingIsKept(t *testing.T) {
	events := each()
	for i := range 20000 {
		k, m := events[i*7%len(events)], api.Modes{Other: i % 3}
		switch i % 5 {
		case 0:
			checkKey(t, m, api.Key{Code: 'a', Mods: 4, Type: 4}, "")
		case 1:
			checkBack(t, "\x1b[27;5;105", 0, 0, false)
		case 2:
			checkBack(t, "\x1b[27;5;105~", 105, 4, true)
		}
		checkKey(t, m, k, want(i%3, k))
	}
}

// P1: every call ends, and none panics, at numbers, texts and bytes of all kinds.
func TestNoCallPanics(t *testing.T) {
	var l []int
	for bit := range 64 {
		for add := -2; add <= 2; add++ {
			l = append(l, 1<<bit+add, -(1<<bit + add))
		}
	}
	texts := []string{"", "a", "\x00", "\xff", "\xf4\x8f\xbf", strings.Repeat("a", 1<<20)}
	for i, n := range l {
		other := l[len(l)-1-i]
		for _, text := range texts {
			for _, k := range []api.Key{
				{Code: n, Mods: other, Type: 1, Shifted: n, Base: other, Text: text},
				{Code: 97, Mods: n, Type: other, Shifted: other, Base: n, Text: text},
				{Code: 9, Mods: n, Type: 1, Shifted: other, Text: text},
				{Code: other, Mods: 255, Type: n, Text: text},
				{Code: n, Mods: 255, Type: 1, Shifted: other, Base: n, Text: text},
			} {
				for level := range 4 {
					Key(api.Modes{Other: level, Mouse: n, Coding: other}, k)
				}
				Key(api.Modes{Other: n}, k)
			}
		}
		checkBytes(t, told(n, other))
	}
	for _, piece := range []string{"\x1b", "\x1b[", "27;", "0", "9", ":", "\x1b[27;5;105~", "\x1b[27;5;"} {
		checkBack(t, strings.Repeat(piece, 1<<16), 0, 0, false)
		checkBack(t, "\x1b[27;5;"+strings.Repeat(piece, 1<<16)+"~", 0, 0, false)
	}
}
