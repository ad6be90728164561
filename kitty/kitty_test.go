package kitty

import (
	"math"
	"slices"
	"strconv"
	"strings"
	"testing"
	"unicode/utf8"

	"clavier/api"
	"clavier/wire"
)

// The calls are as the chapter has them.
var (
	_ func(int, api.Key) []byte = Key
	_ func(int) (int, byte)     = Form
)

// P13.2: the flags are the chapter's.
func TestFlags(t *testing.T) {
	if Clear != 1 || Events != 2 || Others != 4 || All != 8 || Texts != 16 {
		t.Error("the flags are", Clear, Events, Others, All, Texts)
	}
}

// letters are the codes that are told by their letter, numbers those by their number.
var (
	letters = map[int]byte{
		57350: 'D', 57351: 'C', 57352: 'A', 57353: 'B', 57356: 'H', 57357: 'F', 57364: 'P', 57365: 'Q', 57367: 'S',
	}
	numbers = map[int]int{
		57366: 13, 57348: 2, 57349: 3, 57354: 5, 57355: 6, 57363: 29,
		57368: 15, 57369: 17, 57370: 18, 57371: 19, 57372: 20, 57373: 21, 57374: 23, 57375: 24,
	}
)

// isText tells whether a number is the code of a text's key.
func isText(code int) bool {
	return 32 <= code && code <= 1114111 && utf8.ValidRune(rune(code)) && (code < 127 || code > 159) && (code < 57344 || code > 63743)
}

// isTyping tells whether a key is a text's, or one of the three that go as text besides.
func isTyping(code int) bool {
	return isText(code) || code == 9 || code == 13 || code == 127
}

func isMod(code int) bool {
	return 57441 <= code && code <= 57454
}

// form is a code's form, by the chapter's words.
func form(code int) (int, byte) {
	if final, ok := letters[code]; ok {
		return 1, final
	}
	if number, ok := numbers[code]; ok {
		return number, '~'
	}
	if isTyping(code) || code == 27 || 57358 <= code && code <= 57362 || 57376 <= code && code <= 57454 {
		return code, 'u'
	}
	return 0, 0
}

// shown is what a text's key without a text sends as text.
func shown(k api.Key) string {
	if k.Mods&1 == 0 {
		return string(rune(k.Code))
	}
	if k.Shifted > 0 {
		return string(rune(k.Shifted))
	}
	if 97 <= k.Code && k.Code <= 122 {
		return string(rune(k.Code - 32))
	}
	return string(rune(k.Code))
}

// asText is what an event sends that goes as text; empty, if it doesn't.
func asText(k api.Key) string {
	switch {
	case isText(k.Code) && k.Mods&62 == 0:
		if k.Text != "" {
			return k.Text
		}
		return shown(k)
	case isTyping(k.Code) && !isText(k.Code) && k.Mods&63 == 0:
		return string(rune(k.Code))
	}
	return ""
}

// first is the first parameter, second the second one, third the third one; each is empty, if it isn't told.
func first(flags int, k api.Key) string {
	number, final := form(k.Code)
	text := strconv.Itoa(number)
	if flags&4 == 0 || final != 'u' {
		return text
	}
	shifted, base := "", ""
	if k.Shifted != 0 && k.Mods&1 == 1 {
		shifted = strconv.Itoa(k.Shifted)
	}
	if k.Base != 0 && k.Base != k.Code {
		base = strconv.Itoa(k.Base)
	}
	return strings.TrimRight(text+":"+shifted+":"+base, ":")
}

func second(flags int, k api.Key) string {
	if flags&2 != 0 && k.Type > 1 {
		return strconv.Itoa(k.Mods+1) + ":" + strconv.Itoa(k.Type)
	}
	if k.Mods > 0 {
		return strconv.Itoa(k.Mods + 1)
	}
	return ""
}

func third(flags int, k api.Key) string {
	if flags&16 == 0 || k.Type == 3 {
		return ""
	}
	var l []string
	for _, r := range k.Text {
		l = append(l, strconv.Itoa(int(r)))
	}
	return strings.Join(l, ":")
}

// want is what an event that may be sends, by the chapter's words; empty, if nothing. The flags are from 0 to 31.
func want(flags int, k api.Key) string {
	events, all := flags&2 != 0, flags&8 != 0
	if k.Type == 3 && !events || !all && (isMod(k.Code) || k.Type == 3 && isTyping(k.Code)) {
		return ""
	}
	if text := asText(k); text != "" && !all {
		return text
	}
	_, final := form(k.Code)
	params := first(flags, k) + ";" + second(flags, k) + ";" + third(flags, k)
	params = strings.TrimRight(params, ";")
	if params == "1" {
		params = ""
	}
	return "\x1b[" + params + string(rune(final))
}

// checkKey ends the test at the first answer that isn't as it ought to be.
func checkKey(t *testing.T, flags int, k api.Key, want string) {
	t.Helper()
	if got := Key(flags, k); string(got) != want {
		t.Fatalf("Key(%d, %+v) = %q, not %q", flags, k, got, want)
	}
}

// checkNothing asks an event that sends nothing, with each set of flags.
func checkNothing(t *testing.T, k api.Key) {
	t.Helper()
	for flags := range 32 {
		checkKey(t, flags, k, "")
	}
}

// checkFlags holds an event against the chapter, with each set of flags.
func checkFlags(t *testing.T, k api.Key) {
	t.Helper()
	for flags := range 32 {
		checkKey(t, flags, k, want(flags, k))
	}
}

// checkForm ends the test at the first answer that isn't as it ought to be.
func checkForm(t *testing.T, code, number int, final byte) {
	t.Helper()
	if n, f := Form(code); n != number || f != final {
		t.Fatalf("Form(%d) = %d, %q, not %d, %q", code, n, f, number, final)
	}
}

// dress are events of a code with all that may stand beside it.
func dress(code int) []api.Key {
	l := []api.Key{
		{Code: code},
		{Code: code, Text: "x"},
		{Code: code, Text: "\u00e9\u20ac\U0001F600 ~"},
		{Code: code, Shifted: 'A'},
		{Code: code, Shifted: 233, Text: "12345678"},
		{Code: code, Base: 'q'},
		{Code: code, Shifted: 1114111, Base: 128512},
	}
	// A code that isn't a text's may be neither.
	if isText(code) {
		l = append(l, api.Key{Code: code, Shifted: code, Base: code}, api.Key{Code: code, Base: code, Text: "y"})
	}
	return l
}

// keyCodes are codes of all kinds of keys: each that isn't a text's, and texts' of one to four bytes.
func keyCodes() []int {
	l := []int{9, 13, 27, 127}
	for code := 57348; code <= 57454; code++ {
		l = append(l, code)
	}
	for code := 32; code <= 126; code++ {
		l = append(l, code)
	}
	return append(l, 160, 233, 256, 383, 2047, 2048, 8364, 55295, 63744, 65535, 65536, 65633, 128512, 1114111)
}

// fewCodes are one or two codes of each kind, and those that have a rule of their own.
func fewCodes() []int {
	return []int{'a', '1', 233, 9, 13, 27, 127, 57352, 57364, 57366, 57348, 57399, 57414, 57417, 57425, 57427, 57358, 57441, 57454}
}

// wraps are numbers that would be n, if only their last bits were told.
func wraps(n int) []int {
	l := []int{n + math.MinInt}
	for _, bits := range []int{8, 16, 21, 31, 32, 33, 62} {
		l = append(l, n+1<<bits, n-1<<bits)
	}
	return l
}

// ends are very small and very great numbers.
func ends() []int {
	return []int{
		math.MinInt, math.MinInt + 1, math.MinInt32 - 1, math.MinInt32, -65536, -256, -255, -1,
		1114112, math.MaxInt32, math.MaxInt32 + 1, math.MaxUint32, math.MaxUint32 + 1, math.MaxInt - 1, math.MaxInt,
	}
}

// P13.1: codes, and their forms, written out.
func TestFormRows(t *testing.T) {
	for _, r := range []struct {
		code, number int
		final        byte
	}{
		{9, 9, 'u'}, {13, 13, 'u'}, {27, 27, 'u'}, {127, 127, 'u'},
		{32, 32, 'u'}, {97, 97, 'u'}, {126, 126, 'u'}, {160, 160, 'u'}, {233, 233, 'u'}, {8364, 8364, 'u'},
		{57343 - 2048, 55295, 'u'}, {63744, 63744, 'u'}, {128512, 128512, 'u'}, {1114111, 1114111, 'u'},
		{57350, 1, 'D'}, {57351, 1, 'C'}, {57352, 1, 'A'}, {57353, 1, 'B'}, {57356, 1, 'H'}, {57357, 1, 'F'},
		{57364, 1, 'P'}, {57365, 1, 'Q'}, {57366, 13, '~'}, {57367, 1, 'S'},
		{57348, 2, '~'}, {57349, 3, '~'}, {57354, 5, '~'}, {57355, 6, '~'}, {57363, 29, '~'},
		{57368, 15, '~'}, {57369, 17, '~'}, {57370, 18, '~'}, {57371, 19, '~'},
		{57372, 20, '~'}, {57373, 21, '~'}, {57374, 23, '~'}, {57375, 24, '~'},
		{57399, 57399, 'u'}, {57408, 57408, 'u'}, {57409, 57409, 'u'}, {57414, 57414, 'u'}, {57416, 57416, 'u'},
		{57417, 57417, 'u'}, {57418, 57418, 'u'}, {57419, 57419, 'u'}, {57420, 57420, 'u'}, {57421, 57421, 'u'},
		{57422, 57422, 'u'}, {57423, 57423, 'u'}, {57424, 57424, 'u'}, {57425, 57425, 'u'}, {57426, 57426, 'u'}, {57427, 57427, 'u'},
		{57358, 57358, 'u'}, {57362, 57362, 'u'}, {57376, 57376, 'u'}, {57398, 57398, 'u'}, {57428, 57428, 'u'}, {57440, 57440, 'u'},
		{57441, 57441, 'u'}, {57442, 57442, 'u'}, {57454, 57454, 'u'},
		{0, 0, 0}, {1, 0, 0}, {8, 0, 0}, {10, 0, 0}, {12, 0, 0}, {26, 0, 0}, {28, 0, 0}, {31, 0, 0}, {128, 0, 0}, {159, 0, 0},
		{55296, 0, 0}, {57343, 0, 0}, {57344, 0, 0}, {57347, 0, 0}, {57455, 0, 0}, {63743, 0, 0}, {1114112, 0, 0}, {-1, 0, 0}, {-97, 0, 0},
	} {
		checkForm(t, r.code, r.number, r.final)
	}
}

// P13.1: each code, and each number beside the codes, or that would be one, if only its last bits were told.
func TestFormOfEachNumber(t *testing.T) {
	for code := -1000; code <= 1<<21; code++ {
		number, final := form(code)
		checkForm(t, code, number, final)
	}
	others := ends()
	for _, code := range keyCodes() {
		others = append(others, -code)
		others = append(others, wraps(code)...)
	}
	for _, code := range others {
		number, final := form(code)
		checkForm(t, code, number, final)
	}
}

// P13.2: events, and what they send with some flags, written out.
func TestKeyRows(t *testing.T) {
	const shift, alt, ctrl, caps, num = api.Shift, api.Alt, api.Ctrl, api.Caps, api.Num
	for _, r := range []struct {
		flags int
		k     api.Key
		want  string
	}{
		// What goes as text, and what nearly does.
		{0, api.Key{Code: 'a', Type: 1}, "a"},
		{1, api.Key{Code: 'a', Type: 1}, "a"},
		{23, api.Key{Code: 'a', Type: 2}, "a"},
		{1, api.Key{Code: 'a', Type: 1, Text: "\u00e9\u20ac"}, "\u00e9\u20ac"},
		{1, api.Key{Code: 'a', Mods: shift, Type: 1}, "A"},
		{1, api.Key{Code: 'a', Mods: caps, Type: 1}, "a"},
		{1, api.Key{Code: 'a', Mods: shift | caps | num, Type: 1, Shifted: '!'}, "!"},
		{1, api.Key{Code: '1', Type: 1, Shifted: '!'}, "1"},
		{1, api.Key{Code: 'a', Mods: alt, Type: 1}, "\x1b[97;3u"},
		{1, api.Key{Code: 'a', Mods: ctrl | shift, Type: 1}, "\x1b[97;6u"},
		{0, api.Key{Code: 'c', Mods: ctrl, Type: 1}, "\x1b[99;5u"},
		{1, api.Key{Code: 'a', Mods: api.Super, Type: 1}, "\x1b[97;9u"},
		{1, api.Key{Code: 'a', Mods: api.Hyper, Type: 1}, "\x1b[97;17u"},
		{1, api.Key{Code: 'a', Mods: api.Meta, Type: 1}, "\x1b[97;33u"},
		{1, api.Key{Code: 'a', Mods: 255, Type: 2, Text: "b"}, "\x1b[97;256u"},
		{1, api.Key{Code: 8364, Type: 1}, "\u20ac"},
		{1, api.Key{Code: 1114111, Mods: num, Type: 2}, "\U0010FFFF"},
		{0, api.Key{Code: 9, Type: 1}, "\t"},
		{7, api.Key{Code: 13, Type: 2, Text: "x"}, "\r"},
		{1, api.Key{Code: 127, Mods: caps | num, Type: 1}, "\x7f"},
		{1, api.Key{Code: 9, Mods: shift, Type: 1}, "\x1b[9;2u"},
		{1, api.Key{Code: 13, Mods: ctrl, Type: 1}, "\x1b[13;5u"},
		{1, api.Key{Code: 127, Mods: alt | num, Type: 1}, "\x1b[127;131u"},
		{1, api.Key{Code: 27, Type: 1}, "\x1b[27u"},
		{0, api.Key{Code: 27, Mods: caps, Type: 1, Text: "x"}, "\x1b[27;65u"},

		// All of it as sequences.
		{8, api.Key{Code: 'a', Type: 1}, "\x1b[97u"},
		{8, api.Key{Code: 'a', Mods: shift, Type: 1}, "\x1b[97;2u"},
		{8, api.Key{Code: 9, Type: 2}, "\x1b[9u"},
		{8, api.Key{Code: 13, Type: 1, Text: "x"}, "\x1b[13u"},
		{24, api.Key{Code: 127, Type: 1, Text: "x"}, "\x1b[127;;120u"},
		{8, api.Key{Code: 57441, Mods: shift, Type: 1}, "\x1b[57441;2u"},
		{7, api.Key{Code: 57441, Mods: shift, Type: 1}, ""},
		{10, api.Key{Code: 57454, Type: 3}, "\x1b[57454;1:3u"},
		{8, api.Key{Code: 57454, Type: 3}, ""},
		{23, api.Key{Code: 57454, Type: 3}, ""},

		// Types.
		{2, api.Key{Code: 57352, Type: 1}, "\x1b[A"},
		{2, api.Key{Code: 57352, Type: 2}, "\x1b[1;1:2A"},
		{2, api.Key{Code: 57352, Type: 3}, "\x1b[1;1:3A"},
		{1, api.Key{Code: 57352, Type: 2}, "\x1b[A"},
		{1, api.Key{Code: 57352, Type: 3}, ""},
		{2, api.Key{Code: 57352, Mods: ctrl, Type: 3}, "\x1b[1;5:3A"},
		{2, api.Key{Code: 27, Type: 3}, "\x1b[27;1:3u"},
		{2, api.Key{Code: 'a', Type: 3}, ""},
		{2, api.Key{Code: 'a', Mods: ctrl, Type: 3}, ""},
		{2, api.Key{Code: 'a', Mods: ctrl, Type: 2}, "\x1b[97;5:2u"},
		{10, api.Key{Code: 'a', Type: 3}, "\x1b[97;1:3u"},
		{10, api.Key{Code: 'a', Type: 2}, "\x1b[97;1:2u"},
		{8, api.Key{Code: 'a', Type: 3}, ""},
		{2, api.Key{Code: 9, Mods: ctrl, Type: 3}, ""},
		{2, api.Key{Code: 13, Type: 3}, ""},
		{2, api.Key{Code: 127, Type: 3}, ""},
		{10, api.Key{Code: 13, Type: 3}, "\x1b[13;1:3u"},
		{2, api.Key{Code: 57399, Type: 3}, "\x1b[57399;1:3u"},
		{2, api.Key{Code: 57358, Type: 3}, "\x1b[57358;1:3u"},

		// Forms.
		{0, api.Key{Code: 57366, Type: 1}, "\x1b[13~"},
		{1, api.Key{Code: 57366, Mods: shift, Type: 1}, "\x1b[13;2~"},
		{1, api.Key{Code: 57365, Type: 1}, "\x1b[Q"},
		{1, api.Key{Code: 57365, Mods: num, Type: 1}, "\x1b[1;129Q"},
		{1, api.Key{Code: 57375, Type: 1}, "\x1b[24~"},
		{1, api.Key{Code: 57348, Mods: 255, Type: 1}, "\x1b[2;256~"},
		{1, api.Key{Code: 57399, Type: 1, Text: "0"}, "\x1b[57399u"},
		{1, api.Key{Code: 57419, Type: 1}, "\x1b[57419u"},
		{1, api.Key{Code: 57421, Mods: alt, Type: 1}, "\x1b[57421;3u"},

		// The other codes.
		{5, api.Key{Code: 'a', Mods: shift | ctrl, Type: 1, Shifted: 'A'}, "\x1b[97:65;6u"},
		{5, api.Key{Code: 'a', Mods: ctrl, Type: 1, Shifted: 'A'}, "\x1b[97;5u"},
		{5, api.Key{Code: 'a', Mods: ctrl, Type: 1, Base: 'q'}, "\x1b[97::113;5u"},
		{5, api.Key{Code: 'a', Mods: shift | ctrl, Type: 1, Shifted: 'A', Base: 'q'}, "\x1b[97:65:113;6u"},
		{5, api.Key{Code: 'a', Mods: ctrl, Type: 1, Shifted: 'A', Base: 'q'}, "\x1b[97::113;5u"},
		{5, api.Key{Code: 'a', Mods: shift | ctrl, Type: 1, Shifted: 'A', Base: 'a'}, "\x1b[97:65;6u"},
		{5, api.Key{Code: 'a', Mods: ctrl, Type: 1, Base: 'a'}, "\x1b[97;5u"},
		{3, api.Key{Code: 'a', Mods: shift | ctrl, Type: 1, Shifted: 'A', Base: 'q'}, "\x1b[97;6u"},
		{12, api.Key{Code: 'a', Type: 1, Base: 'q'}, "\x1b[97::113u"},
		{12, api.Key{Code: 'a', Mods: shift, Type: 1, Shifted: 'a'}, "\x1b[97:97;2u"},
		{14, api.Key{Code: 'a', Mods: shift, Type: 3, Shifted: 'A', Base: 'q'}, "\x1b[97:65:113;2:3u"},
		{4, api.Key{Code: 27, Mods: shift, Type: 1, Shifted: 'A', Base: 'q'}, "\x1b[27:65:113;2u"},
		{4, api.Key{Code: 57399, Type: 1, Base: '0'}, "\x1b[57399::48u"},
		{12, api.Key{Code: 57441, Mods: shift, Type: 1, Shifted: 'A'}, "\x1b[57441:65;2u"},
		{4, api.Key{Code: 57352, Mods: shift, Type: 1, Shifted: 'A', Base: 'q'}, "\x1b[1;2A"},
		{4, api.Key{Code: 57352, Type: 1, Base: 'q'}, "\x1b[A"},
		{4, api.Key{Code: 57348, Mods: shift, Type: 1, Shifted: 'A', Base: 'q'}, "\x1b[2;2~"},
		{4, api.Key{Code: 57366, Type: 1, Base: 'q'}, "\x1b[13~"},

		// Texts.
		{24, api.Key{Code: 'a', Type: 1, Text: "a"}, "\x1b[97;;97u"},
		{24, api.Key{Code: 'a', Mods: shift, Type: 1, Text: "A"}, "\x1b[97;2;65u"},
		{26, api.Key{Code: 'a', Type: 2, Text: "a"}, "\x1b[97;1:2;97u"},
		{26, api.Key{Code: 'a', Type: 3, Text: "a"}, "\x1b[97;1:3u"},
		{24, api.Key{Code: 'a', Type: 1}, "\x1b[97u"},
		{8, api.Key{Code: 'a', Type: 1, Text: "a"}, "\x1b[97u"},
		{24, api.Key{Code: 'a', Type: 1, Text: "\u00e9\u20ac\U0001F600"}, "\x1b[97;;233:8364:128512u"},
		{24, api.Key{Code: 'a', Type: 1, Text: "12345678"}, "\x1b[97;;49:50:51:52:53:54:55:56u"},
		{17, api.Key{Code: 'a', Mods: alt, Type: 1, Text: "x"}, "\x1b[97;3;120u"},
		{16, api.Key{Code: 57352, Type: 1, Text: "x"}, "\x1b[1;;120A"},
		{18, api.Key{Code: 57352, Type: 2, Text: "x"}, "\x1b[1;1:2;120A"},
		{18, api.Key{Code: 57352, Type: 3, Text: "x"}, "\x1b[1;1:3A"},
		{16, api.Key{Code: 57348, Type: 1, Text: " "}, "\x1b[2;;32~"},
		{16, api.Key{Code: 57399, Type: 1, Text: "0"}, "\x1b[57399;;48u"},
		{31, api.Key{Code: 'a', Mods: shift, Type: 2, Shifted: 'A', Base: 'q', Text: "A"}, "\x1b[97:65:113;2:2;65u"},

		// Codes that are no key's, 1 among them.
		{31, api.Key{Code: 1, Type: 1}, ""},
		{31, api.Key{Code: 0, Type: 1}, ""},
		{31, api.Key{Code: 57344, Type: 1}, ""},
	} {
		checkKey(t, r.flags, r.k, r.want)
	}
}

// P13.2: codes of all kinds, with all that may stand beside them, each modifier alone, all and none, each type and each set of flags.
func TestEachKindOfKey(t *testing.T) {
	for _, code := range keyCodes() {
		for _, k := range dress(code) {
			for _, k.Mods = range []int{0, 1, 2, 4, 8, 16, 32, 64, 128, 193, 255} {
				for k.Type = api.Press; k.Type <= api.Release; k.Type++ {
					checkFlags(t, k)
				}
			}
		}
	}
}

// P13.2: some codes with all modifiers, each type and each set of flags.
func TestEachModifier(t *testing.T) {
	for _, code := range fewCodes() {
		for i, k := range dress(code) {
			for k.Mods = range 256 {
				for k.Type = api.Press; k.Type <= api.Release; k.Type++ {
					if (i+k.Mods+k.Type)%3 == 0 {
						checkFlags(t, k)
					}
				}
			}
		}
	}
}

// P13.2: each code, and each number beside the codes, with flags, modifiers and types in turn.
func TestEachCode(t *testing.T) {
	for code := -1000; code <= 1<<21; code++ {
		k := api.Key{Code: code, Mods: code * 7 & 255, Type: 1 + (code&1023)%3}
		flags := code / 3 & 31
		sent := ""
		if number, _ := form(code); number != 0 {
			sent = want(flags, k)
		}
		checkKey(t, flags, k, sent)
	}
}

// P13.2: what goes as text of each code: with Shift, Caps and Num alone.
func TestEachCodeAsText(t *testing.T) {
	for code := 32; code <= 1114111; code++ {
		if isText(code) {
			k := api.Key{Code: code, Mods: code&1 | code&6<<5, Type: 1 + code>>3&1}
			checkKey(t, code>>4&7, k, shown(k))
		}
	}
}

// P13.2: each character as Shifted, as Base, and in a text; and each number that may be none of these.
func TestEachOtherCode(t *testing.T) {
	for c := -1000; c <= 1<<21; c++ {
		figures := strconv.Itoa(c)
		shifted, base := "", ""
		if isText(c) {
			shifted, base = "\x1b[57358:"+figures+";2u", "\x1b[57358::"+figures+";2u"
		} else if c == 0 {
			shifted, base = "\x1b[57358;2u", "\x1b[57358;2u"
		}
		checkKey(t, Others, api.Key{Code: 57358, Mods: api.Shift, Type: api.Press, Shifted: c}, shifted)
		checkKey(t, Others, api.Key{Code: 57358, Mods: api.Shift, Type: api.Press, Base: c}, base)
		if 32 <= c && c <= 1114111 && utf8.ValidRune(rune(c)) && (c < 127 || c > 159) {
			k := api.Key{Code: 57358, Type: api.Press, Text: string(rune(c))}
			checkKey(t, Texts, k, "\x1b[57358;;"+figures+"u")
		}
	}
}

// P13.2: texts of one to eight code points, of one to four bytes each, as text and as parts.
func TestTexts(t *testing.T) {
	for n := 1; n <= 8; n++ {
		for _, points := range [][]rune{{'a'}, {233}, {8364}, {128512}, {'a', 233, 8364, 128512}, {1114111, ' ', 160, 63743}} {
			text, parts := "", ""
			for i := range n {
				r := points[i%len(points)]
				text += string(r)
				parts += ":" + strconv.Itoa(int(r))
			}
			for _, k := range []api.Key{{Code: 'a', Type: 1, Text: text}, {Code: 233, Type: 2, Mods: 193, Text: text}} {
				checkKey(t, Clear|Texts, k, text)
			}
			checkKey(t, All|Texts, api.Key{Code: 'a', Type: 1, Text: text}, "\x1b[97;;"+parts[1:]+"u")
			checkKey(t, Texts, api.Key{Code: 'a', Type: 2, Mods: 4, Text: text}, "\x1b[97;5;"+parts[1:]+"u")
			checkKey(t, Texts|Events, api.Key{Code: 57352, Type: 3, Text: text}, "\x1b[1;1:3A")
			checkKey(t, All, api.Key{Code: 'a', Type: 1, Text: text}, "\x1b[97u")
		}
	}
}

// each is events that may be: texts' keys, plain ones, and of all other kinds.
func each() []api.Key {
	return []api.Key{
		{Code: 'a', Type: 1}, {Code: 'a', Mods: 5, Type: 2, Shifted: 'A', Base: 'q', Text: "A"}, {Code: 'q', Mods: 65, Type: 1, Text: "xyz"},
		{Code: 233, Mods: 1, Type: 3, Shifted: 201}, {Code: 128512, Mods: 255, Type: 2, Base: 'a'}, {Code: '1', Mods: 1, Type: 1, Shifted: '!'},
		{Code: 9, Type: 1}, {Code: 9, Mods: 1, Type: 1}, {Code: 13, Mods: 7, Type: 2, Shifted: 'A'}, {Code: 27, Mods: 4, Type: 3, Base: 'b'},
		{Code: 127, Mods: 192, Type: 1, Text: "x"}, {Code: 57352, Type: 1}, {Code: 57352, Mods: 2, Type: 3, Text: "up"}, {Code: 57366, Type: 2},
		{Code: 57375, Mods: 8, Type: 1}, {Code: 57414, Type: 1, Text: "\u00e9"}, {Code: 57417, Mods: 1, Type: 3, Shifted: '4'},
		{Code: 57358, Mods: 64, Type: 1}, {Code: 57441, Mods: 1, Type: 1}, {Code: 57454, Type: 3, Base: 'c'},
	}
}

// P13.2: flags are what is left of a number by 32; of one below 0 there are none.
func TestNumbersOfFlags(t *testing.T) {
	numbers := ends()
	for flags := range 32 {
		numbers = append(numbers, wraps(flags)...)
	}
	for n := -300; n <= 2100; n++ {
		numbers = append(numbers, n)
	}
	for _, k := range each() {
		for _, n := range numbers {
			flags := 0
			if n > 0 {
				flags = n % 32
			}
			checkKey(t, n, k, want(flags, k))
		}
	}
}

// P13.2: the flag Clear is not asked.
func TestClearIsNotAsked(t *testing.T) {
	for _, k := range each() {
		for flags := 0; flags < 32; flags += 2 {
			checkKey(t, flags|Clear, k, string(Key(flags, k)))
		}
	}
}

// P13.2: events that may not be, for each reason, send nothing.
func TestEventsThatMayNotBe(t *testing.T) {
	for _, wrong := range []func(k *api.Key){
		func(k *api.Key) { k.Code = 0 },
		func(k *api.Key) { k.Code = 1 },
		func(k *api.Key) { k.Code = 8 },
		func(k *api.Key) { k.Code = 128 },
		func(k *api.Key) { k.Code = 55296 },
		func(k *api.Key) { k.Code = 57344 },
		func(k *api.Key) { k.Code = 57455 },
		func(k *api.Key) { k.Code = 1114112 },
		func(k *api.Key) { k.Code = -k.Code },
		func(k *api.Key) { k.Code += 1 << 32 },
		func(k *api.Key) { k.Mods = -1 },
		func(k *api.Key) { k.Mods -= 256 },
		func(k *api.Key) { k.Mods += 256 },
		func(k *api.Key) { k.Mods += 1 << 32 },
		func(k *api.Key) { k.Mods = math.MaxInt },
		func(k *api.Key) { k.Type = 0 },
		func(k *api.Key) { k.Type = api.Motion },
		func(k *api.Key) { k.Type = -k.Type },
		func(k *api.Key) { k.Type += 1 << 32 },
		func(k *api.Key) { k.Type += 4 },
		func(k *api.Key) { k.Shifted = 13 },
		func(k *api.Key) { k.Shifted = 57352 },
		func(k *api.Key) { k.Shifted = -1 },
		func(k *api.Key) { k.Shifted = 1114112 },
		func(k *api.Key) { k.Shifted = 'A' + 1<<32 },
		func(k *api.Key) { k.Base = 9 },
		func(k *api.Key) { k.Base = 57399 },
		func(k *api.Key) { k.Base = 31 },
		func(k *api.Key) { k.Base = math.MaxInt },
		func(k *api.Key) { k.Text = "\x1b" },
		func(k *api.Key) { k.Text = "a\r" },
		func(k *api.Key) { k.Text = "\x7f" },
		func(k *api.Key) { k.Text = "\u0080" },
		func(k *api.Key) { k.Text = "\xff" },
		func(k *api.Key) { k.Text = "\xc3" },
		func(k *api.Key) { k.Text = "123456789" },
		func(k *api.Key) { k.Text = strings.Repeat("a", 1<<16) },
	} {
		for _, k := range each() {
			wrong(&k)
			checkNothing(t, k)
		}
	}
}

// P13.2: a type that may not be sends nothing, however near to one that may, or wrapped round onto one.
func TestTypesThatMayNotBe(t *testing.T) {
	wrong := append(ends(), 0, api.Motion, 5, 6, 7, 8, 255, 256, 257)
	for n := api.Press; n <= api.Release; n++ {
		wrong = append(wrong, wraps(n)...)
	}
	for _, k := range each() {
		for _, k.Type = range wrong {
			checkNothing(t, k)
		}
		for k.Type = api.Press; k.Type <= api.Release; k.Type++ {
			checkFlags(t, k)
		}
	}
}

// codesOf are the codes of forms that don't tell them.
func codesOf() map[string]int {
	codes := map[string]int{}
	for code, final := range letters {
		codes["1"+string(rune(final))] = code
	}
	for code, number := range numbers {
		codes[strconv.Itoa(number)+"~"] = code
	}
	return codes
}

// checkTold ends the test, if an event isn't sent as one sequence that tells its code, its modifiers and its type.
func checkTold(t *testing.T, codes map[string]int, flags int, k api.Key) {
	t.Helper()
	b := Key(flags, k)
	s, n, err := wire.Take(b)
	if err != api.OK || n != len(b) || s.Kind != api.CSI || s.Private != 0 || s.Inter != "" {
		t.Fatalf("Key(%d, %+v) = %q, which is not one sequence", flags, k, b)
	}
	number := wire.Arg(s, 0, 1)
	code, ok := codes[strconv.Itoa(number)+string(rune(s.Final))]
	if !ok && s.Final == 'u' {
		code = number
	}
	kind := 1
	if len(s.Params) > 1 && len(s.Params[1]) > 1 {
		kind = s.Params[1][1]
	}
	if mods := wire.Arg(s, 1, 1) - 1; code != k.Code || mods != k.Mods || kind != k.Type {
		t.Fatalf("Key(%d, %+v) = %q, which tells %d, %d, %d", flags, k, b, code, mods, kind)
	}
}

// P13.3: with Clear, Events and All, whatever other flags there are, one sequence tells an event's code, modifiers and type.
func TestOneSequenceTellsAnEvent(t *testing.T) {
	codes := codesOf()
	for _, flags := range []int{11, 15, 27, 31} {
		for _, code := range keyCodes() {
			for _, k := range dress(code) {
				for _, k.Mods = range []int{0, 1, 2, 4, 8, 16, 32, 64, 128, 255} {
					for k.Type = api.Press; k.Type <= api.Release; k.Type++ {
						checkTold(t, codes, flags, k)
					}
				}
			}
		}
	}
	for code := 32; code <= 1114111; code++ {
		if isText(code) {
			checkTold(t, codes, 11, api.Key{Code: code, Mods: code & 255, Type: 1 + code%3})
		}
	}
}

// P13.3: of some codes with all modifiers and each type, no two events are sent as the same sequence; what else is told of an event stands behind these.
func TestNoTwoEventsAreAlike(t *testing.T) {
	seen := map[string]api.Key{}
	for _, code := range append(keyCodes(), 65, 129, 257, 513) {
		if number, _ := form(code); number == 0 {
			continue
		}
		for mods := range 256 {
			for kind := api.Press; kind <= api.Release; kind++ {
				k := api.Key{Code: code, Mods: mods, Type: kind}
				sent := string(Key(Clear|Events|All, k))
				if other, ok := seen[sent]; ok && other != k {
					t.Fatalf("%+v and %+v are sent as %q", other, k, sent)
				}
				seen[sent] = k
				k.Shifted, k.Base, k.Text = 'A', 'q', "x"
				checkKey(t, Clear|Events|All, k, sent)
			}
		}
	}
}

// The chapter's examples.
func TestExamples(t *testing.T) {
	checkKey(t, Clear, api.Key{Code: 'c', Mods: api.Ctrl, Type: api.Press}, "\x1b[99;5u")
	checkKey(t, All, api.Key{Code: 'a', Type: api.Press}, "\x1b[97u")
	checkKey(t, Events, api.Key{Code: 57352, Type: api.Release}, "\x1b[1;1:3A")
}

// R3: what is told is the caller's own, and the same twice.
func TestAnswersAreNotShared(t *testing.T) {
	for _, k := range each() {
		for flags := range 32 {
			one, two := Key(flags, k), Key(flags, k)
			for i := range one {
				one[i] = '#'
			}
			one = append(one, "more"...)
			if string(two) != want(flags, k) {
				t.Errorf("%d, %+v: %q beside %q", flags, k, two, one)
			}
			checkKey(t, flags, k, want(flags, k))
		}
	}
}

// R3: what is handed in stays as it is.
func TestWhatIsHandedInStays(t *testing.T) {
	for _, k := range each() {
		was := k
		was.Text = strings.Clone(k.Text)
		for flags := range 32 {
			sent := Key(flags, k)
			for i := range sent {
				sent[i] = '#'
			}
			if k != was {
				t.Fatalf("%+v became %+v", was, k)
			}
		}
	}
}

// R4: nothing is kept from call to call: in any order of calls each is told what it is told alone.
func TestNothingIsKept(t *testing.T) {
	events, codes := each(), keyCodes()
	for i := range 20000 {
		k, flags := events[i*7%len(events)], i*5%32
		switch i % 5 {
		case 0:
			checkKey(t, flags, api.Key{Code: 'a', Mods: 4, Type: 4}, "")
		case 1:
			code := codes[i%len(codes)]
			number, final := form(code)
			checkForm(t, code, number, final)
		case 2:
			checkForm(t, 0, 0, 0)
		}
		checkKey(t, flags, k, want(flags, k))
	}
	if !slices.Equal(events, each()) {
		t.Error("the events changed")
	}
}

// P1: every call ends, and none panics, at numbers and texts of all kinds.
func TestNoCallPanics(t *testing.T) {
	var l []int
	for bit := range 64 {
		for add := -2; add <= 2; add++ {
			l = append(l, 1<<bit+add, -(1<<bit + add))
		}
	}
	texts := []string{"", "a", "\x00", "\xff", "\xf4\x8f\xbf", strings.Repeat("a", 1<<20)}
	for i, n := range l {
		other := l[len(l)-1-i]
		for _, text := range texts {
			for _, k := range []api.Key{
				{Code: n, Mods: other, Type: 1, Shifted: n, Base: other, Text: text},
				{Code: 97, Mods: n, Type: other, Shifted: other, Base: n, Text: text},
				{Code: 9, Mods: n, Type: 1, Shifted: other, Text: text},
				{Code: other, Mods: 255, Type: n, Text: text},
				{Code: n, Mods: 255, Type: 1, Shifted: other, Base: n, Text: text},
				{Code: n, Mods: 1, Type: 3, Base: 97, Text: text},
			} {
				Key(n, k)
				Key(31, k)
				Key(0, k)
			}
		}
		Form(n)
	}
}
