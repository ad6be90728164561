package mods

import (
	"math"
	"slices"
	"strings"
	"testing"
	"unicode/utf8"

	"clavier/api"
)

// The calls are as the chapter has them.
var (
	_ func(api.Key) bool    = May
	_ func(int) int         = Old
	_ func(int) int         = Param
	_ func(int) (int, bool) = Of
	_ func(api.Key) int     = Shown
	_ func(int) (int, bool) = Fold
)

// part is one of the parts of an event, with which something is handed in, and whether it may be.
type part struct {
	name string
	may  bool
	set  func(k *api.Key)
}

// bases are events that may be: a bare one, and ones of each kind of key in which all parts are there, or stand at an edge.
func bases() []api.Key {
	eight := strings.Repeat("\U0010FFFF", 8)
	return []api.Key{
		{Code: 97, Type: 1},
		{Code: 97, Mods: 1, Type: 1, Shifted: 65, Base: 98, Text: "A"},
		{Code: 1114111, Mods: 255, Type: 3, Shifted: 1114111, Base: 32, Text: eight},
		{Code: 13, Mods: 4, Type: 2, Shifted: 160, Base: 126, Text: "\u00a0~ "},
		{Code: 57352, Mods: 64, Type: 3, Shifted: 63744, Base: 55295, Text: "abcdefgh"},
		{Code: 57349, Mods: 128, Type: 2, Base: 65536},
		{Code: 57414, Mods: 2, Type: 1, Shifted: 35},
		{Code: 57440, Mods: 8, Type: 3, Text: "\u00e9"},
		{Code: 57441, Mods: 16, Type: 2, Base: 233, Text: "e\u0301"},
	}
}

// wraps are numbers that would be n, if only their last bits were told.
func wraps(n int) []int {
	var l []int
	for _, bits := range []int{8, 16, 21, 31, 32, 33, 62} {
		l = append(l, n+1<<bits, n-1<<bits)
	}
	return append(l, n+math.MinInt)
}

// ends are very small and very great numbers.
func ends() []int {
	return []int{
		math.MinInt, math.MinInt + 1, math.MinInt + 255, math.MinInt + 256, math.MinInt32 - 1, math.MinInt32, -65536, -256, -255,
		1114112, math.MaxInt32, math.MaxInt32 + 1, math.MaxUint32, math.MaxUint32 + 1, math.MaxInt - 255, math.MaxInt - 1, math.MaxInt,
	}
}

// someMods are all of -10 to 300, the ends, and numbers that would be modifiers, or parameters, if they wrapped round.
func someMods() []int {
	l := ends()
	for n := -10; n <= 300; n++ {
		l = append(l, n)
	}
	for n := range 257 {
		l = append(l, wraps(n)...)
	}
	return l
}

// textCodes are codes of text's keys, those at the edges of what is text among them.
func textCodes() []int {
	return []int{
		32, 33, 48, 57, 64, 65, 90, 91, 97, 122, 125, 126, 160, 161, 233, 255, 256, 2047, 2048, 8364,
		55294, 55295, 63744, 63745, 65279, 65535, 65536, 128512, 1114110, 1114111,
	}
}

// otherCodes are codes of each other kind of key, the first and the last one of each of their rows among them.
func otherCodes() []int {
	return []int{
		9, 13, 27, 127,
		57350, 57351, 57352, 57353, 57356, 57357, 57364, 57365, 57366, 57367, 57417, 57420, 57423, 57424, 57427,
		57348, 57349, 57354, 57355, 57363, 57368, 57375, 57421, 57422, 57425, 57426,
		57399, 57408, 57409, 57414, 57416,
		57358, 57362, 57376, 57398, 57428, 57440,
		57441, 57447, 57454,
	}
}

// noCodes are numbers of no key, those beside the edges of what is one among them; 0 isn't here, though it is none's, too.
func noCodes() []int {
	return append(ends(),
		-97, -13, -2, -1, 1, 2, 7, 8, 10, 12, 14, 26, 28, 31, 128, 129, 159,
		55296, 56319, 56320, 57343, 57344, 57346, 57347, 57455, 57456, 60000, 63742, 63743, 1114113, 2097152,
		97+1<<32, 97-1<<32, 13+1<<32, 57352+1<<32, 57441-1<<32, 97+1<<62, 97+math.MinInt,
	)
}

func checkMay(t *testing.T, k api.Key, want bool) {
	t.Helper()
	if got := May(k); got != want {
		t.Errorf("May(%+v) = %v", k, got)
	}
}

// checkParts sets each part in each event of bases, alone, and, where it may not be, besides ones that may not be either.
func checkParts(t *testing.T, parts []part) {
	t.Helper()
	for _, base := range bases() {
		for _, p := range parts {
			k := base
			p.set(&k)
			if got := May(k); got != p.may {
				t.Errorf("%s: May(%+v) = %v", p.name, k, got)
			}
			for _, wrong := range wrongs() {
				j := k
				wrong(&j)
				checkMay(t, j, false)
			}
		}
	}
}

// wrongs change an event to one that may not be, each by one part.
func wrongs() []func(k *api.Key) {
	return []func(k *api.Key){
		func(k *api.Key) { k.Code = 0 },
		func(k *api.Key) { k.Mods = 256 },
		func(k *api.Key) { k.Type = 4 },
		func(k *api.Key) { k.Shifted = 13 },
		func(k *api.Key) { k.Base = 57352 },
		func(k *api.Key) { k.Text = "\x1b" },
	}
}

// P10.1: events of all kinds that may be, may be.
func TestMayOfBases(t *testing.T) {
	for _, k := range bases() {
		checkMay(t, k, true)
	}
	checkMay(t, api.Key{}, false)
	checkMay(t, api.Key{Code: 97}, false)
	checkMay(t, api.Key{Type: 1}, false)
}

// P10.1: each code that is a key's, of each kind, and numbers beside these that are none.
func TestMayOfCodes(t *testing.T) {
	var parts []part
	add := func(may bool, codes ...int) {
		for _, code := range codes {
			parts = append(parts, part{"code", may, func(k *api.Key) { k.Code = code }})
		}
	}
	add(true, textCodes()...)
	add(true, otherCodes()...)
	add(false, noCodes()...)
	add(false, 0)
	checkParts(t, parts)
}

// P10.1: each code from 57348 to 57454 is a key's, and so are the four plain ones below 32 and at 127; all other points by their bounds.
func TestMayOfEachCode(t *testing.T) {
	for code := -1000; code <= 1<<21; code++ {
		want := 32 <= code && code <= 1114111 && utf8.ValidRune(rune(code)) && (code < 127 || code > 159)
		if 57344 <= code && code <= 63743 {
			want = 57348 <= code && code <= 57454
		}
		if code == 9 || code == 13 || code == 27 || code == 127 {
			want = true
		}
		if got := May(api.Key{Code: code, Type: 1}); got != want {
			t.Fatalf("May of the code %d = %v", code, got)
		}
	}
}

// P10.1: Mods are 0 to 255.
func TestMayOfMods(t *testing.T) {
	var parts []part
	for _, n := range []int{0, 1, 2, 3, 4, 8, 16, 32, 64, 127, 128, 192, 254, 255} {
		parts = append(parts, part{"mods", true, func(k *api.Key) { k.Mods = n }})
	}
	for _, n := range append(ends(), -10, -2, -1, 256, 257, 258, 260, 300, 511, 512, 1024, 65536, 65537, 1<<32, 1<<32+1, -1<<32, 1<<62) {
		parts = append(parts, part{"mods", false, func(k *api.Key) { k.Mods = n }})
	}
	checkParts(t, parts)
	for _, n := range someMods() {
		checkMay(t, api.Key{Code: 97, Type: 1, Mods: n}, 0 <= n && n <= 255)
	}
}

// P10.1: the type is that of a press, a repeat, or a release; a motion, and all else, is none of a key's.
func TestMayOfTypes(t *testing.T) {
	var parts []part
	for _, n := range []int{api.Press, api.Repeat, api.Release} {
		parts = append(parts, part{"type", true, func(k *api.Key) { k.Type = n }})
	}
	wrong := append(ends(), api.Motion, -3, -2, -1, 0, 4, 5, 6, 7, 8, 255, 256)
	for n := 1; n <= 3; n++ {
		wrong = append(wrong, wraps(n)...)
	}
	for _, n := range wrong {
		parts = append(parts, part{"type", false, func(k *api.Key) { k.Type = n }})
	}
	checkParts(t, parts)
}

// P10.1: Shifted, and Base, is 0, or a text's code; not one of another key, nor of none.
func TestMayOfShiftedAndBase(t *testing.T) {
	var parts []part
	add := func(may bool, codes ...int) {
		for _, code := range codes {
			parts = append(parts,
				part{"shifted", may, func(k *api.Key) { k.Shifted = code }},
				part{"base", may, func(k *api.Key) { k.Base = code }},
				part{"both", may, func(k *api.Key) { k.Shifted, k.Base = code, code }})
		}
	}
	add(true, 0)
	add(true, textCodes()...)
	add(false, otherCodes()...)
	add(false, noCodes()...)
	checkParts(t, parts)
}

// P10.1: Shifted, and Base, of each code.
func TestMayOfEachShiftedAndBase(t *testing.T) {
	for code := -1000; code <= 1<<21; code++ {
		want := 32 <= code && code <= 1114111 && utf8.ValidRune(rune(code))
		if 127 <= code && code <= 159 || 57344 <= code && code <= 63743 {
			want = false
		}
		if code == 0 {
			want = true
		}
		if got := May(api.Key{Code: 57352, Type: 3, Shifted: code}); got != want {
			t.Fatalf("May, shifted %d, = %v", code, got)
		}
		if got := May(api.Key{Code: 57352, Type: 3, Base: code}); got != want {
			t.Fatalf("May, on the base %d, = %v", code, got)
		}
	}
}

func checkText(t *testing.T, text string, want bool) {
	t.Helper()
	for _, k := range bases() {
		k.Text = text
		checkMay(t, k, want)
	}
}

// P10.1: a text has 8 code points at most, of however many bytes.
func TestMayOfLengths(t *testing.T) {
	for _, point := range []string{" ", "a", "~", "\u00a0", "\u00e9", "\u07ff", "\u0800", "\u20ac", "\uffff", "\U00010000", "\U0001F600", "\U0010FFFF"} {
		for count := 0; count <= 40; count++ {
			text := strings.Repeat(point, count)
			checkText(t, text, count <= 8)
			if count > 0 {
				checkText(t, text[len(point):]+"a", count <= 8)
				checkText(t, "a"+text[len(point):], count <= 8)
			}
		}
		for _, count := range []int{64, 256, 264, 4096, 65536 + 8} {
			checkText(t, strings.Repeat(point, count), false)
		}
	}
	checkText(t, "a\u00e9\u20ac\U0001F600a\u00e9\u20ac\U0001F600", true)
	checkText(t, "a\u00e9\u20ac\U0001F600a\u00e9\u20ac\U0001F600a", false)
}

// P10.1: a text is valid: no byte of it stands for nothing, and none is cut within a code point, in any place.
func TestMayOfTextsThatAreNotValid(t *testing.T) {
	for _, point := range []string{"\u00e9", "\u20ac", "\U0001F600", "\U0010FFFF"} {
		for cut := 1; cut < len(point); cut++ {
			for _, bytes := range []string{point[:cut], point[cut:]} {
				checkText(t, bytes, false)
				checkText(t, "a"+bytes, false)
				checkText(t, bytes+"a", false)
				checkText(t, strings.Repeat("a", 7)+bytes, false)
				checkText(t, bytes+strings.Repeat(point, 6), false)
				checkText(t, strings.Repeat(point, 7)+bytes, false)
			}
		}
	}
	for _, bytes := range []string{
		"\x80", "\xa0", "\xbf", "\xc0", "\xc1", "\xf5", "\xfe", "\xff",
		"\xc0\x80", "\xc1\xbf", "\xc1\xa1", "\xe0\x80\x80", "\xe0\x9f\xbf", "\xe0\x81\xa1", "\xf0\x80\x80\x80", "\xf0\x8f\xbf\xbf",
		"\xed\xa0\x80", "\xed\xbf\xbf", "\xf4\x90\x80\x80", "\xf7\xbf\xbf\xbf", "\xc3(", "\xe2\x82(", "\xf0\x9f\x98(",
	} {
		for _, text := range []string{bytes, "a" + bytes, bytes + "a", "\u00e9" + bytes + "\u00e9"} {
			checkText(t, text, false)
		}
	}
}

// P10.1: each single byte, and each two bytes, are a text just if they are valid, and no control characters.
func TestMayOfFewBytes(t *testing.T) {
	want := func(text string) bool {
		for _, r := range text {
			if r < 32 || r > 126 && r < 160 {
				return false
			}
		}
		return utf8.ValidString(text)
	}
	for first := range 256 {
		text := string([]byte{byte(first)})
		checkText(t, text, want(text))
		for second := range 256 {
			text := string([]byte{byte(first), byte(second)})
			checkMay(t, api.Key{Code: 97, Type: 1, Text: text}, want(text))
		}
	}
}

// P10.1: no code point of a text is below 32, or 127 to 159, in whichever place it stands; those beside these may be.
func TestMayOfControlsInEachPlace(t *testing.T) {
	check := func(c int, want bool) {
		for _, point := range []string{"a", "\U0010FFFF"} {
			for length := 1; length <= 8; length++ {
				for place := range length {
					checkText(t, strings.Repeat(point, place)+string(rune(c))+strings.Repeat(point, length-place-1), want)
				}
			}
		}
	}
	for _, c := range []int{0, 1, 7, 8, 9, 10, 13, 27, 30, 31, 127, 128, 129, 133, 155, 158, 159} {
		check(c, false)
	}
	for _, c := range []int{32, 33, 125, 126, 160, 161, 173, 8232, 55295, 57344, 57352, 57441, 63743, 65279, 65533, 65535} {
		check(c, true)
	}
}

// P10.1: each code point alone, as a text.
func TestMayOfEachPoint(t *testing.T) {
	for c := 0; c <= 1114111; c++ {
		if !utf8.ValidRune(rune(c)) {
			continue
		}
		want := c >= 32 && (c < 127 || c > 159)
		if got := May(api.Key{Code: 57441, Type: 3, Text: string(rune(c))}); got != want {
			t.Fatalf("May, with %d as its text, = %v", c, got)
		}
	}
}

func checkOld(t *testing.T, mods, want int) {
	t.Helper()
	if got := Old(mods); got != want {
		t.Errorf("Old(%d) = %d, not %d", mods, got, want)
	}
}

func checkParam(t *testing.T, mods, want int) {
	t.Helper()
	if got := Param(mods); got != want {
		t.Errorf("Param(%d) = %d, not %d", mods, got, want)
	}
}

func checkOf(t *testing.T, param, want int, ok bool) {
	t.Helper()
	if got, gotOk := Of(param); got != want || gotOk != ok {
		t.Errorf("Of(%d) = %d, %v, not %d, %v", param, got, gotOk, want, ok)
	}
}

// P10.2: Old is the last three bits of a number that isn't below 0, however great it is.
func TestOld(t *testing.T) {
	for n := -300; n <= 300; n++ {
		want := 0
		if n >= 0 {
			want = n % 8
		}
		checkOld(t, n, want)
	}
	checkOld(t, api.Shift, api.Shift)
	checkOld(t, api.Alt, api.Alt)
	checkOld(t, api.Ctrl, api.Ctrl)
	for _, n := range []int{api.Super, api.Hyper, api.Meta, api.Caps, api.Num, 256, 512, 65536, 1 << 31, 1 << 32, 1 << 62} {
		checkOld(t, n, 0)
		checkOld(t, n+5, 5)
		checkOld(t, n-1, 7)
		checkOld(t, -n, 0)
		checkOld(t, -n+7, 0)
	}
	for n, want := range map[int]int{math.MaxInt: 7, math.MaxInt - 1: 6, math.MaxInt32: 7, math.MinInt: 0, math.MinInt + 7: 0, -1: 0} {
		checkOld(t, n, want)
	}
}

// P10.2: Param is 1 more, of 0 to 255; of all others 1. Of is 1 less, of 1 to 256; of all others none.
func TestParamAndOf(t *testing.T) {
	for _, n := range someMods() {
		if 0 <= n && n <= 255 {
			checkParam(t, n, n+1)
		} else {
			checkParam(t, n, 1)
		}
		if 1 <= n && n <= 256 {
			checkOf(t, n, n-1, true)
		} else {
			checkOf(t, n, 0, false)
		}
	}
	checkParam(t, 0, 1)
	checkParam(t, 5, 6)
	checkParam(t, 255, 256)
	checkParam(t, 256, 1)
	checkParam(t, -1, 1)
	checkOf(t, 0, 0, false)
	checkOf(t, 1, 0, true)
	checkOf(t, 6, 5, true)
	checkOf(t, 256, 255, true)
	checkOf(t, 257, 0, false)
}

// P10.4: what Param tells of modifiers is told back, and no two of them are told alike.
func TestThereAndBack(t *testing.T) {
	seen := map[int]bool{}
	for mods := range 256 {
		param := Param(mods)
		checkOf(t, param, mods, true)
		if seen[param] {
			t.Errorf("%d is told twice", param)
		}
		seen[param] = true
	}
	for _, param := range someMods() {
		if mods, ok := Of(param); ok {
			checkParam(t, mods, param)
		}
	}
}

func checkShown(t *testing.T, k api.Key, want int) {
	t.Helper()
	if got := Shown(k); got != want {
		t.Errorf("Shown(%+v) = %d, not %d", k, got, want)
	}
}

// shiftedMods and otherMods are modifiers with Shift, and without it, numbers that may not be among them.
func shiftedMods() []int {
	return []int{1, 3, 5, 7, 9, 65, 129, 255, 257, 301, 65537, 1<<32 + 1, 1<<62 + 1, math.MaxInt}
}

func otherMods() []int {
	return []int{0, 2, 4, 6, 8, 16, 32, 64, 128, 254, 256, 300, 1 << 32, 1 << 62, math.MaxInt - 1, -1, -2, -3, -255, math.MinInt, math.MinInt + 1}
}

// shownCodes are a and z, codes beside them and beside the capital ones, text of other kinds, keys that are no text, and numbers of none.
func shownCodes() []int {
	l := slices.Concat(ends(), textCodes(), otherCodes(), noCodes(), []int{0, 65, 66, 89, 90, 64, 91, 96, 97, 98, 109, 121, 122, 123, 223, 224, 246, 255, 945, 1072})
	for c := 'a'; c <= 'z'; c++ {
		l = append(l, wraps(int(c))...)
	}
	return l
}

// capital is the code of the capital letter of one of a to z, written out; of all others it is that code.
func capital(code int) int {
	const small, great = "abcdefghijklmnopqrstuvwxyz", "ABCDEFGHIJKLMNOPQRSTUVWXYZ"
	for i := range small {
		if code == int(small[i]) {
			return int(great[i])
		}
	}
	return code
}

// P10.3: without Shift the code is shown, whatever Shifted is.
func TestShownWithoutShift(t *testing.T) {
	for _, mods := range otherMods() {
		for _, code := range shownCodes() {
			checkShown(t, api.Key{Code: code, Mods: mods, Type: 1}, code)
			checkShown(t, api.Key{Code: code, Mods: mods, Type: 2, Shifted: 65, Base: 66, Text: "C"}, code)
			checkShown(t, api.Key{Code: code, Mods: mods, Shifted: -1}, code)
		}
	}
}

// P10.3: with Shift, Shifted is shown, if it isn't 0, whatever the code is.
func TestShownWithShifted(t *testing.T) {
	for _, mods := range shiftedMods() {
		for _, code := range []int{0, 9, 50, 65, 97, 122, 233, 57352, 57441, -1, math.MaxInt} {
			for _, shifted := range shownCodes() {
				if shifted != 0 {
					checkShown(t, api.Key{Code: code, Mods: mods, Type: 1, Shifted: shifted}, shifted)
					checkShown(t, api.Key{Code: code, Mods: mods, Type: 3, Shifted: shifted, Base: 120, Text: "y"}, shifted)
				}
			}
		}
	}
}

// P10.3: with Shift, and without Shifted, of a to z the capital letter is shown, and of all others the code.
func TestShownWithShiftAlone(t *testing.T) {
	for _, mods := range shiftedMods() {
		for _, code := range shownCodes() {
			checkShown(t, api.Key{Code: code, Mods: mods, Type: 1}, capital(code))
			checkShown(t, api.Key{Code: code, Mods: mods, Type: 3, Base: 120, Text: "y"}, capital(code))
		}
		for code := -70000; code <= 70000; code++ {
			if got := Shown(api.Key{Code: code, Mods: mods}); got != capital(code) {
				t.Fatalf("Shown of %d with Shift = %d", code, got)
			}
		}
	}
	for code, want := range map[int]int{96: 96, 97: 65, 98: 66, 121: 89, 122: 90, 123: 123, 65: 65, 90: 90, 50: 50, 233: 233, 57352: 57352, 9: 9} {
		checkShown(t, api.Key{Code: code, Mods: api.Shift, Type: api.Press}, want)
		checkShown(t, api.Key{Code: code, Mods: api.Caps, Type: api.Press}, code)
	}
}

// allFolds are the folds, each character written out with its control character.
func allFolds() map[int]int {
	return map[int]int{
		32: 0, 50: 0, 64: 0,
		97: 1, 98: 2, 99: 3, 100: 4, 101: 5, 102: 6, 103: 7, 104: 8, 105: 9, 106: 10, 107: 11, 108: 12, 109: 13,
		110: 14, 111: 15, 112: 16, 113: 17, 114: 18, 115: 19, 116: 20, 117: 21, 118: 22, 119: 23, 120: 24, 121: 25, 122: 26,
		65: 1, 66: 2, 67: 3, 68: 4, 69: 5, 70: 6, 71: 7, 72: 8, 73: 9, 74: 10, 75: 11, 76: 12, 77: 13,
		78: 14, 79: 15, 80: 16, 81: 17, 82: 18, 83: 19, 84: 20, 85: 21, 86: 22, 87: 23, 88: 24, 89: 25, 90: 26,
		51: 27, 91: 27,
		52: 28, 92: 28,
		53: 29, 93: 29,
		54: 30, 94: 30,
		55: 31, 47: 31, 95: 31,
		56: 127, 63: 127,
	}
}

func checkFold(t *testing.T, c, want int, ok bool) {
	t.Helper()
	if got, gotOk := Fold(c); got != want || gotOk != ok {
		t.Errorf("Fold(%d) = %d, %v, not %d, %v", c, got, gotOk, want, ok)
	}
}

// P10.3: the control character of each number, or none.
func TestFold(t *testing.T) {
	folds := allFolds()
	for c := -1000; c <= 70000; c++ {
		want, ok := folds[c]
		checkFold(t, c, want, ok)
	}
	for c, want := range map[rune]int{
		' ': 0, '2': 0, '@': 0, 'a': 1, 'A': 1, 'i': 9, 'm': 13, 'z': 26, 'Z': 26, '3': 27, '[': 27, '4': 28, '\\': 28,
		'5': 29, ']': 29, '6': 30, '^': 30, '7': 31, '/': 31, '_': 31, '8': 127, '?': 127,
	} {
		checkFold(t, int(c), want, true)
	}
	for _, c := range "!\"#$%&'()*+,-.:;<=>019`{|}~\x00\x01\x09\x0d\x1a\x1b\x1f\x7f\u0080\u00a0\u00e1\u00e9\u0130\u0131\u017f\u212a\uff21\uff41" {
		checkFold(t, int(c), 0, false)
	}
}

// P10.3: numbers that would be characters that fold, if only their last bits were told, don't; nor do keys that are no text, or very great numbers.
func TestFoldOfOthers(t *testing.T) {
	for c := range allFolds() {
		for _, n := range append(wraps(c), -c, ^c, c+128, c+math.MaxInt32+1) {
			if n < 0 || n > 127 {
				checkFold(t, n, 0, false)
			}
		}
	}
	for _, c := range slices.Concat(ends(), otherCodes()) {
		checkFold(t, c, 0, false)
	}
	for c := 65536; c <= 1<<21; c += 13 {
		checkFold(t, c, 0, false)
	}
}

// P10.4: capital letters fold as small ones do, to 1 to 26, in turn.
func TestCapitalLettersFoldAsSmallOnes(t *testing.T) {
	for i := range 26 {
		small, ok := Fold('a' + i)
		great, greatOk := Fold('A' + i)
		if !ok || !greatOk || small != i+1 || great != small {
			t.Errorf("%d: %d, %v; %d: %d, %v", 'a'+i, small, ok, 'A'+i, great, greatOk)
		}
		checkFold(t, Shown(api.Key{Code: 'a' + i, Mods: api.Shift | api.Ctrl, Type: api.Press}), small, true)
	}
}

// Each of the control characters below 32, and 127, is what some character folds to, and no other number is.
func TestFoldsAreControls(t *testing.T) {
	told := map[int]bool{}
	for c := range 128 {
		control, ok := Fold(c)
		if !ok {
			continue
		}
		told[control] = true
		if control < 0 || control > 31 && control != 127 {
			t.Errorf("Fold(%d) = %d", c, control)
		}
	}
	if len(told) != 33 {
		t.Errorf("%d are told", len(told))
	}
}

// The chapter's examples.
func TestExamples(t *testing.T) {
	checkFold(t, 'c', 3, true)
	checkFold(t, '2', 0, true)
	checkFold(t, '1', 0, false)
	checkParam(t, api.Shift|api.Ctrl, 6)
}

// R4: nothing is kept from call to call, and no order of calls is to be seen in an answer.
func TestNothingIsKept(t *testing.T) {
	wrong := api.Key{Code: 97, Mods: 1, Type: 1, Text: "\x1b"}
	right := api.Key{Code: 97, Mods: 1, Type: 1, Text: "A"}
	for range 100 {
		checkMay(t, wrong, false)
		checkMay(t, right, true)
		for c, want := range allFolds() {
			checkFold(t, c, want, true)
			checkFold(t, '1', 0, false)
		}
		checkShown(t, right, 65)
		checkShown(t, api.Key{Code: 97}, 97)
		checkOf(t, 0, 0, false)
		checkOf(t, Param(7), 7, true)
	}
}

// P1: every call ends, and none panics, at numbers and texts of all kinds.
func TestNoCallPanics(t *testing.T) {
	var l []int
	for bit := range 64 {
		for add := -2; add <= 2; add++ {
			l = append(l, 1<<bit+add, -(1<<bit + add))
		}
	}
	texts := []string{"", "a", "\x00", "\xff", "\xf4\x8f\xbf", strings.Repeat("a", 1<<20), strings.Repeat("\xff", 1<<20)}
	for i, n := range l {
		if old := Old(n); old < 0 || old > 7 {
			t.Errorf("Old(%d) = %d", n, old)
		}
		if param := Param(n); param < 1 || param > 256 {
			t.Errorf("Param(%d) = %d", n, param)
		}
		if mods, ok := Of(n); mods < 0 || mods > 255 || !ok && mods != 0 {
			t.Errorf("Of(%d) = %d, %v", n, mods, ok)
		}
		if control, ok := Fold(n); control < 0 || control > 127 || !ok && control != 0 {
			t.Errorf("Fold(%d) = %d, %v", n, control, ok)
		}
		other := l[len(l)-1-i]
		for _, text := range texts {
			for _, k := range []api.Key{
				{Code: n, Mods: other, Type: 1, Shifted: n, Base: other, Text: text},
				{Code: 97, Mods: n, Type: other, Shifted: other, Base: n, Text: text},
				{Code: other, Mods: 255, Type: n, Text: text},
			} {
				if May(k) && (k.Mods < 0 || k.Mods > 255 || k.Type < 1 || k.Type > 3) {
					t.Errorf("May of %d, %d, %d = true", k.Code, k.Mods, k.Type)
				}
				if shown := Shown(k); shown != k.Code && shown != k.Shifted && shown != capital(k.Code) {
					t.Errorf("Shown of %d, %d, %d = %d", k.Code, k.Mods, k.Shifted, shown)
				}
			}
		}
	}
}

// P1: a text that is too long for an event costs nothing, however long it is.
func TestLongTextsAreNotTakenApart(t *testing.T) {
	for _, length := range []int{64, 1 << 20} {
		k := api.Key{Code: 57352, Type: 1, Text: strings.Repeat("a", length)}
		if allocs := testing.AllocsPerRun(10, func() { May(k) }); allocs != 0 {
			t.Errorf("%d bytes: %v times memory was asked for", length, allocs)
		}
	}
}
