package decode

import (
	"bytes"
	"math"
	"reflect"
	"regexp"
	"slices"
	"strconv"
	"strings"
	"testing"
	"unicode/utf8"

	"clavier/api"
	"clavier/kitty"
	"clavier/mouse"
	"clavier/paste"
	"clavier/wire"
)

// The calls are as the chapter has them.
var (
	_ func(int, api.Key) api.Key     = Told
	_ func([]byte) (Item, int, bool) = One
	_ func([]byte) ([]Item, bool)    = All
	_ func(Item, Item) bool          = Same
	_ struct {
		Kind  int
		Key   api.Key
		Mouse api.Mouse
		In    bool
		Paste string
		Reply api.Seq
	} = Item{}
)

// P22.2: the kinds are the chapter's.
func TestKinds(t *testing.T) {
	if Key != 1 || Mouse != 2 || Focus != 3 || Paste != 4 || Reply != 5 {
		t.Error("the kinds are", Key, Mouse, Focus, Paste, Reply)
	}
}

// letters are the codes that are told by their letter, numbers those by their number.
var (
	letters = map[byte]int{
		'D': 57350, 'C': 57351, 'A': 57352, 'B': 57353, 'H': 57356, 'F': 57357, 'P': 57364, 'Q': 57365, 'S': 57367,
	}
	numbers = map[int]int{
		13: 57366, 2: 57348, 3: 57349, 5: 57354, 6: 57355, 29: 57363,
		15: 57368, 17: 57369, 18: 57370, 19: 57371, 20: 57372, 21: 57373, 23: 57374, 24: 57375,
	}
)

// isText tells whether a number is the code of a text's key.
func isText(code int) bool {
	return 32 <= code && code <= 1114111 && utf8.ValidRune(rune(code)) && (code < 127 || code > 159) && (code < 57344 || code > 63743)
}

// isCoded tells whether a number is the code of a key whose form ends in u.
func isCoded(code int) bool {
	return isText(code) || code == 9 || code == 13 || code == 27 || code == 127 ||
		57358 <= code && code <= 57362 || 57376 <= code && code <= 57454
}

// form is a code's form, by the chapter's words.
func form(code int) (int, byte) {
	for final, letter := range letters {
		if letter == code {
			return 1, final
		}
	}
	for number, numbered := range numbers {
		if numbered == code {
			return number, '~'
		}
	}
	if isCoded(code) {
		return code, 'u'
	}
	return 0, 0
}

// wantTold is what is told of an event, by the chapter's words.
func wantTold(flags int, k api.Key) api.Key {
	others, texts := flags >= 0 && flags&4 == 4, flags >= 0 && flags&16 == 16
	told := api.Key{Code: k.Code, Mods: k.Mods, Type: k.Type}
	if others && isCoded(k.Code) {
		if k.Mods >= 0 && k.Mods&1 == 1 {
			told.Shifted = k.Shifted
		}
		if k.Base != k.Code {
			told.Base = k.Base
		}
	}
	if texts && k.Type != 3 {
		told.Text = k.Text
	}
	return told
}

// sent is what a key's event sends with all flags, by the chapter's words.
func sent(k api.Key) string {
	number, final := form(k.Code)
	first := strconv.Itoa(number)
	if final == 'u' {
		shifted, base := "", ""
		if k.Shifted != 0 && k.Mods&1 == 1 {
			shifted = strconv.Itoa(k.Shifted)
		}
		if k.Base != 0 && k.Base != k.Code {
			base = strconv.Itoa(k.Base)
		}
		first = strings.TrimRight(first+":"+shifted+":"+base, ":")
	}
	second := ""
	if k.Type > 1 {
		second = strconv.Itoa(k.Mods+1) + ":" + strconv.Itoa(k.Type)
	} else if k.Mods > 0 {
		second = strconv.Itoa(k.Mods + 1)
	}
	var third []string
	if k.Type != 3 {
		for _, r := range k.Text {
			third = append(third, strconv.Itoa(int(r)))
		}
	}
	params := strings.TrimRight(first+";"+second+";"+strings.Join(third, ":"), ";")
	if params == "1" {
		params = ""
	}
	return "\x1b[" + params + string(rune(final))
}

// mayKey tells whether a key's event may be.
func mayKey(k api.Key) bool {
	_, final := form(k.Code)
	may := final != 0 && 0 <= k.Mods && k.Mods <= 255 && 1 <= k.Type && k.Type <= 3 &&
		(k.Shifted == 0 || isText(k.Shifted)) && (k.Base == 0 || isText(k.Base)) && utf8.ValidString(k.Text) && utf8.RuneCountInString(k.Text) <= 8
	for _, r := range k.Text {
		may = may && r >= 32 && (r < 127 || r > 159)
	}
	return may
}

var keyed = regexp.MustCompile(`^\x1b\[(\d*)(?::(\d*))?(?::(\d+))?(?:;(?:(\d+)(?::(\d+))?)?)?(?:;(\d+(?::\d+)*))?([A-Z~u])$`)

// number is figures as a number, or another one, if there are none.
func number(figures string, otherwise int) int {
	if n, err := strconv.Atoi(figures); err == nil {
		return n
	}
	return otherwise
}

// wantKey is the event that a sequence tells, if it tells one, by the chapter's words.
func wantKey(s string) (api.Key, bool) {
	m := keyed.FindStringSubmatch(s)
	if m == nil {
		return api.Key{}, false
	}
	k := api.Key{Shifted: number(m[2], 0), Base: number(m[3], 0), Mods: number(m[4], 1) - 1, Type: number(m[5], 1)}
	switch first := number(m[1], 1); m[7] {
	case "u":
		k.Code = first
	case "~":
		k.Code = numbers[first]
	default:
		k.Code = letters[m[7][0]]
	}
	for _, figures := range strings.Split(m[6], ":") {
		if m[6] != "" {
			k.Text += string(rune(number(figures, -1)))
		}
	}
	if !mayKey(k) || sent(k) != s || wantTold(31, k) != k {
		return api.Key{}, false
	}
	return k, true
}

var moused = regexp.MustCompile(`^\x1b\[<(0|[1-9]\d{0,2});([1-9]\d{0,4});([1-9]\d{0,4})([Mm])$`)

// wantMouse is the mouse's event that a sequence tells, if it tells one, by the chapter's words.
func wantMouse(s string) (api.Mouse, bool) {
	m := moused.FindStringSubmatch(s)
	if m == nil {
		return api.Mouse{}, false
	}
	n := number(m[1], 0)
	e := api.Mouse{X: number(m[2], 0), Y: number(m[3], 0), Type: 1, Mods: n >> 2 & 7}
	if n&32 != 0 {
		e.Type = 4
	}
	if m[4] == "m" {
		e.Type = 3
	}
	button, ok := map[int]int{0: 1, 1: 2, 2: 3, 3: 0, 64: 4, 65: 5, 66: 6, 67: 7, 128: 8, 129: 9, 130: 10, 131: 11}[n&^(4+8+16+32)]
	e.Button = button
	wheel := 4 <= button && button <= 7
	if !ok || e.X > 65535 || e.Y > 65535 || button == 0 && e.Type != 4 || wheel && e.Type != 1 || n&32 != 0 && e.Type == 3 {
		return api.Mouse{}, false
	}
	return e, true
}

var pasted = regexp.MustCompile(`^\x1b\[200~([\t\n\r -~\x{a0}-\x{fffc}\x{fffe}-\x{10ffff}]*)\x1b\[201~`)

// wantPaste is the paste with which bytes begin, if they begin with one, by the chapter's words; of these none has the sign that stands for bytes that are no code points.
func wantPaste(s string) (string, int, bool) {
	m := pasted.FindStringSubmatch(s)
	if m == nil {
		return "", 0, false
	}
	return m[1], len(m[0]), true
}

// wantOne is the item with which bytes begin, by the chapter's words.
func wantOne(s string) (Item, int, bool) {
	if p, n, ok := wantPaste(s); ok {
		return Item{Kind: 4, Paste: p}, n, true
	}
	for final, in := range map[string]bool{"I": true, "O": false} {
		if strings.HasPrefix(s, "\x1b["+final) {
			return Item{Kind: 3, In: in}, 3, true
		}
	}
	seq, n, err := wire.Take([]byte(s))
	if err != api.OK {
		return Item{}, 0, false
	}
	if e, ok := wantMouse(s[:n]); ok {
		return Item{Kind: 2, Mouse: e}, n, true
	}
	if k, ok := wantKey(s[:n]); ok {
		return Item{Kind: 1, Key: k}, n, true
	}
	return Item{Kind: 5, Reply: seq}, n, true
}

// wantAll are all items, by the chapter's words.
func wantAll(s string) ([]Item, bool) {
	var l []Item
	for s != "" {
		i, n, ok := wantOne(s)
		if !ok {
			return nil, false
		}
		l = append(l, i)
		s = s[n:]
	}
	return l, true
}

// like tells whether all in two items is alike, but that nil and empty lists are.
func like(a, b Item) bool {
	norm := func(i Item) Item {
		if len(i.Reply.Params) == 0 {
			i.Reply.Params = nil
		}
		return i
	}
	return reflect.DeepEqual(norm(a), norm(b))
}

// checkIs ends the test, if One's answer isn't as it ought to be.
func checkIs(t *testing.T, s string, want Item, wantN int, wantOK bool) {
	t.Helper()
	i, n, ok := One([]byte(s))
	if !like(i, want) || n != wantN || ok != wantOK {
		t.Fatalf("One(%.99q) = %+v, %d, %v, not %+v, %d, %v", s, i, n, ok, want, wantN, wantOK)
	}
}

// behinds are bytes that may stand behind an item: some that go on as it ends, some that begin one, and some that begin none.
func behinds() []string {
	return []string{"", "\x1b", "u", "~", "1", "x", "M", ";", "\x1b[A", "\x1b[201~", "\x1b\\", "\xff"}
}

// checkOne holds One against the chapter, with nothing behind, and with other bytes.
func checkOne(t *testing.T, s string) {
	t.Helper()
	for _, behind := range behinds() {
		want, n, ok := wantOne(s + behind)
		checkIs(t, s+behind, want, n, ok)
	}
}

// checkAll holds All against the chapter.
func checkAll(t *testing.T, s string) {
	t.Helper()
	l, ok := All([]byte(s))
	want, wantOK := wantAll(s)
	if ok != wantOK || !slices.EqualFunc(l, want, like) {
		t.Fatalf("All(%.199q) = %+v, %v, not %+v, %v", s, l, ok, want, wantOK)
	}
}

func checkTold(t *testing.T, flags int, k api.Key) {
	t.Helper()
	if got, want := Told(flags, k), wantTold(flags, k); got != want {
		t.Fatalf("Told(%d, %+v) = %+v, not %+v", flags, k, got, want)
	}
}

// wraps are numbers that would be n, if only their last bits were told.
func wraps(n int) []int {
	l := []int{n + math.MinInt}
	for _, bits := range []int{8, 16, 21, 31, 32, 33, 62} {
		l = append(l, n+1<<bits, n-1<<bits)
	}
	return l
}

// ends are very small and very great numbers.
func ends() []int {
	return []int{
		math.MinInt, math.MinInt + 1, math.MinInt32 - 1, math.MinInt32, -65536, -256, -255, -33, -32, -31, -16, -4, -1,
		1114112, math.MaxInt32, math.MaxInt32 + 1, math.MaxUint32, math.MaxUint32 + 1, math.MaxInt - 1, math.MaxInt,
	}
}

// fewCodes are one or two codes of each kind, those that have a rule of their own, and some that are none.
func fewCodes() []int {
	return []int{
		'a', 'A', '1', ' ', 233, 1114111, 9, 13, 27, 127, 57352, 57356, 57364, 57366, 57348, 57363, 57375, 57399, 57414, 57417, 57425, 57427, 57358, 57376, 57441, 57454,
		0, 1, -1, 128, 55296, 57347, 57455, 1114112, 1<<32 + 'a', math.MinInt, math.MaxInt,
	}
}

// keyCodes are codes of all kinds of keys: each that isn't a text's, and texts' of one to four bytes.
func keyCodes() []int {
	l := []int{9, 13, 27, 127}
	for code := 57348; code <= 57454; code++ {
		if _, final := form(code); final != 0 {
			l = append(l, code)
		}
	}
	for code := 32; code <= 126; code++ {
		l = append(l, code)
	}
	return append(l, 160, 233, 256, 383, 2047, 2048, 8364, 55295, 63744, 65533, 65535, 65536, 65633, 128512, 1114111)
}

// dress are events of a code with all that may stand beside it.
func dress(code int) []api.Key {
	l := []api.Key{
		{Code: code},
		{Code: code, Text: "x"},
		{Code: code, Text: "\u00e9\u20ac\U0001F600 ~\ufffd"},
		{Code: code, Shifted: 'A'},
		{Code: code, Shifted: 233, Text: "12345678"},
		{Code: code, Base: 'q'},
		{Code: code, Base: 'q', Text: "\x7e"},
		{Code: code, Shifted: 1114111, Base: 128512},
		{Code: code, Shifted: 1114111, Base: 128512, Text: "\U0010ffff"},
	}
	// A code that isn't a text's may be neither.
	if isText(code) {
		l = append(l, api.Key{Code: code, Shifted: code, Base: code}, api.Key{Code: code, Base: code, Text: "y"})
	}
	return l
}

// P22.1: events, and what is told of them, written out.
func TestToldRows(t *testing.T) {
	full := api.Key{Code: 'a', Mods: api.Shift | api.Ctrl, Type: api.Press, Shifted: 'A', Base: 'q', Text: "z"}
	with := func(change func(*api.Key)) api.Key {
		k := full
		change(&k)
		return k
	}
	for _, r := range []struct {
		flags   int
		k, want api.Key
	}{
		{31, full, full},
		{20, full, full},
		{31 - 4, full, with(func(k *api.Key) { k.Shifted, k.Base = 0, 0 })},
		{16, full, with(func(k *api.Key) { k.Shifted, k.Base = 0, 0 })},
		{31 - 16, full, with(func(k *api.Key) { k.Text = "" })},
		{4, full, with(func(k *api.Key) { k.Text = "" })},
		{11, full, with(func(k *api.Key) { k.Shifted, k.Base, k.Text = 0, 0, "" })},
		{0, full, with(func(k *api.Key) { k.Shifted, k.Base, k.Text = 0, 0, "" })},
		{-1, full, with(func(k *api.Key) { k.Shifted, k.Base, k.Text = 0, 0, "" })},
		{-32, full, with(func(k *api.Key) { k.Shifted, k.Base, k.Text = 0, 0, "" })},
		{math.MinInt + 31, full, with(func(k *api.Key) { k.Shifted, k.Base, k.Text = 0, 0, "" })},
		{32, full, with(func(k *api.Key) { k.Shifted, k.Base, k.Text = 0, 0, "" })},
		{32 + 20, full, full},
		{1<<40 + 4, full, with(func(k *api.Key) { k.Text = "" })},
		{math.MaxInt, full, full},
		{31, with(func(k *api.Key) { k.Mods = api.Ctrl }), with(func(k *api.Key) { k.Mods, k.Shifted = api.Ctrl, 0 })},
		{31, with(func(k *api.Key) { k.Mods = 0 }), with(func(k *api.Key) { k.Mods, k.Shifted = 0, 0 })},
		{31, with(func(k *api.Key) { k.Mods = -1 }), with(func(k *api.Key) { k.Mods, k.Shifted = -1, 0 })},
		{31, with(func(k *api.Key) { k.Mods = 257 }), with(func(k *api.Key) { k.Mods = 257 })},
		{31, with(func(k *api.Key) { k.Base = 'a' }), with(func(k *api.Key) { k.Base = 0 })},
		{31, with(func(k *api.Key) { k.Shifted = 'a' }), with(func(k *api.Key) { k.Shifted = 'a' })},
		{31, with(func(k *api.Key) { k.Base = 'A' }), with(func(k *api.Key) { k.Base = 'A' })},
		{31, with(func(k *api.Key) { k.Type = api.Repeat }), with(func(k *api.Key) { k.Type = api.Repeat })},
		{31, with(func(k *api.Key) { k.Type = api.Release }), with(func(k *api.Key) { k.Type, k.Text = api.Release, "" })},
		{31, with(func(k *api.Key) { k.Type = 4 }), with(func(k *api.Key) { k.Type = 4 })},
		{31, with(func(k *api.Key) { k.Code = 57352 }), with(func(k *api.Key) { k.Code, k.Shifted, k.Base = 57352, 0, 0 })},
		{31, with(func(k *api.Key) { k.Code = 57366 }), with(func(k *api.Key) { k.Code, k.Shifted, k.Base = 57366, 0, 0 })},
		{31, with(func(k *api.Key) { k.Code = 57363 }), with(func(k *api.Key) { k.Code, k.Shifted, k.Base = 57363, 0, 0 })},
		{31, with(func(k *api.Key) { k.Code = 57417 }), with(func(k *api.Key) { k.Code = 57417 })},
		{31, with(func(k *api.Key) { k.Code = 57441 }), with(func(k *api.Key) { k.Code = 57441 })},
		{31, with(func(k *api.Key) { k.Code = 27 }), with(func(k *api.Key) { k.Code = 27 })},
		{31, with(func(k *api.Key) { k.Code = 0 }), with(func(k *api.Key) { k.Code, k.Shifted, k.Base = 0, 0, 0 })},
		{31, with(func(k *api.Key) { k.Code = 57455 }), with(func(k *api.Key) { k.Code, k.Shifted, k.Base = 57455, 0, 0 })},
		{31, api.Key{}, api.Key{}},
	} {
		if got := Told(r.flags, r.k); got != r.want {
			t.Errorf("Told(%d, %+v) = %+v, not %+v", r.flags, r.k, got, r.want)
		}
	}
}

// P22.1: all flags, and numbers beyond and below them; with and without Shift, Shifted, Base and Text; each type, and numbers that are none.
func TestToldOfAllFlags(t *testing.T) {
	flags := ends()
	for n := range 32 {
		flags = append(flags, n, n+32, n+96)
		flags = append(flags, wraps(n)...)
	}
	var events []api.Key
	for _, code := range fewCodes() {
		for _, k := range dress(code) {
			for _, m := range []int{0, 1, 2, 5, 254, 255, 256, 257, -1, -2, math.MinInt, math.MinInt + 1, math.MaxInt} {
				for _, typ := range []int{1, 2, 3, 0, 4, -1, 1<<32 + 3, 1<<16 + 3} {
					k.Mods, k.Type = m, typ
					events = append(events, k)
				}
			}
		}
	}
	for _, k := range events {
		for n := range 32 {
			checkTold(t, n, k)
		}
	}
	for i, n := range flags {
		for j := i % 7; j < len(events); j += 7 {
			checkTold(t, n, events[j])
		}
	}
}

// P22.1: each code, and each number beside the codes; Base that is the code, and parts that no event may have.
func TestToldOfEachCode(t *testing.T) {
	for code := -300; code <= 1114200; code++ {
		checkTold(t, 31, api.Key{Code: code, Mods: 1, Type: 1, Shifted: 'S', Base: 'B', Text: "T"})
		checkTold(t, 31, api.Key{Code: code, Mods: 1, Type: 1, Shifted: code, Base: code})
	}
	strange := append(ends(), 0, 1, 31, 128, 57352, 57441)
	for _, code := range fewCodes() {
		for _, n := range append(strange, wraps(code)...) {
			for flags := range 32 {
				checkTold(t, flags, api.Key{Code: code, Mods: 1, Type: 1, Shifted: n, Base: n, Text: "\x1b\xff"})
				checkTold(t, flags, api.Key{Code: n, Mods: 1, Type: 1, Shifted: code, Base: code, Text: strings.Repeat("x", 99)})
			}
		}
	}
}

// P22.1: told twice, it is as it was told once; and what is told sends the same as the event.
func TestToldTwice(t *testing.T) {
	for _, code := range fewCodes() {
		for _, k := range dress(code) {
			for _, m := range []int{0, 1, 4, 255} {
				for typ := 1; typ <= 3; typ++ {
					k.Mods, k.Type = m, typ
					for flags := range 32 {
						told := Told(flags, k)
						if again := Told(flags, told); again != told {
							t.Fatalf("Told(%d, %+v) = %+v", flags, told, again)
						}
						// Without All a Text goes as text, whatever the flags.
						if flags&8 != 0 && !bytes.Equal(kitty.Key(flags, k), kitty.Key(flags, told)) {
							t.Fatalf("%+v sends %q with %d, and %+v %q", k, kitty.Key(flags, k), flags, told, kitty.Key(flags, told))
						}
					}
				}
			}
		}
	}
}

// seq is a control sequence of such a text.
func seq(final byte, params ...[]int) api.Seq {
	return api.Seq{Kind: api.CSI, Params: params, Final: final}
}

// P22.2: bytes, and the item with which they begin, written out.
func TestOneRows(t *testing.T) {
	key := func(k api.Key) Item { return Item{Kind: 1, Key: k} }
	reply := func(s api.Seq) Item { return Item{Kind: 5, Reply: s} }
	for _, r := range []struct {
		text string
		want Item
		n    int
	}{
		// The chapter's.
		{"\x1b[97u", key(api.Key{Code: 97, Type: 1}), 5},
		{"\x1b[I", Item{Kind: 3, In: true}, 3},

		// Keys.
		{"\x1b[A", key(api.Key{Code: 57352, Type: 1}), 3},
		{"\x1b[P", key(api.Key{Code: 57364, Type: 1}), 3},
		{"\x1b[1;1:3A", key(api.Key{Code: 57352, Type: 3}), 8},
		{"\x1b[1;256:2H", key(api.Key{Code: 57356, Mods: 255, Type: 2}), 10},
		{"\x1b[1;;97A", key(api.Key{Code: 57352, Type: 1, Text: "a"}), 8},
		{"\x1b[13~", key(api.Key{Code: 57366, Type: 1}), 5},
		{"\x1b[13u", key(api.Key{Code: 13, Type: 1}), 5},
		{"\x1b[24;5~", key(api.Key{Code: 57375, Mods: 4, Type: 1}), 7},
		{"\x1b[2~", key(api.Key{Code: 57348, Type: 1}), 4},
		{"\x1b[97:65;2;65u", key(api.Key{Code: 97, Mods: 1, Type: 1, Shifted: 65, Text: "A"}), 13},
		{"\x1b[97:65:113;2:3u", key(api.Key{Code: 97, Mods: 1, Type: 3, Shifted: 65, Base: 113}), 16},
		{"\x1b[97::113;;233:8364u", key(api.Key{Code: 97, Type: 1, Base: 113, Text: "\u00e9\u20ac"}), 20},
		{"\x1b[57399;129u", key(api.Key{Code: 57399, Mods: 128, Type: 1}), 12},
		{"\x1b[57427u", key(api.Key{Code: 57427, Type: 1}), 8},
		{"\x1b[57441;2:3u", key(api.Key{Code: 57441, Mods: 1, Type: 3}), 12},
		{"\x1b[1114111u", key(api.Key{Code: 1114111, Type: 1}), 10},
		{"\x1b[97;;1:2u", reply(seq('u', []int{97}, []int{-1}, []int{1, 2})), 10},
		{"\x1b[97;;32:33:34:35:36:37:38:39u", key(api.Key{Code: 97, Type: 1, Text: " !\"#$%&'"}), 30},

		// What nearly is a key.
		{"\x1b[1A", reply(seq('A', []int{1})), 4},
		{"\x1b[2A", reply(seq('A', []int{2})), 4},
		{"\x1b[2;2A", reply(seq('A', []int{2}, []int{2})), 6},
		{"\x1b[;2A", reply(seq('A', []int{-1}, []int{2})), 5},
		{"\x1b[1;1A", reply(seq('A', []int{1}, []int{1})), 6},
		{"\x1b[1;2:1A", reply(seq('A', []int{1}, []int{2, 1})), 8},
		{"\x1b[1;2:4A", reply(seq('A', []int{1}, []int{2, 4})), 8},
		{"\x1b[1;2:0A", reply(seq('A', []int{1}, []int{2, 0})), 8},
		{"\x1b[1;2:A", reply(seq('A', []int{1}, []int{2, -1})), 7},
		{"\x1b[1;:3A", reply(seq('A', []int{1}, []int{-1, 3})), 7},
		{"\x1b[1;2:3:A", reply(seq('A', []int{1}, []int{2, 3, -1})), 9},
		{"\x1b[1;0A", reply(seq('A', []int{1}, []int{0})), 6},
		{"\x1b[1;257A", reply(seq('A', []int{1}, []int{257})), 8},
		{"\x1b[1:1;2A", reply(seq('A', []int{1, 1}, []int{2})), 8},
		{"\x1b[1;2;A", reply(seq('A', []int{1}, []int{2}, []int{-1})), 7},
		{"\x1b[1;2;31A", reply(seq('A', []int{1}, []int{2}, []int{31})), 9},
		{"\x1b[1;2;65;A", reply(seq('A', []int{1}, []int{2}, []int{65}, []int{-1})), 10},
		{"\x1b[1;2;65;1A", reply(seq('A', []int{1}, []int{2}, []int{65}, []int{1})), 11},
		{"\x1b[E", reply(seq('E')), 3},
		{"\x1b[R", reply(seq('R')), 3},
		{"\x1b[1;2R", reply(seq('R', []int{1}, []int{2})), 6},
		{"\x1b[M", reply(seq('M')), 3},
		{"\x1b[14~", reply(seq('~', []int{14})), 5},
		{"\x1b[~", reply(seq('~')), 3},
		{"\x1b[1~", reply(seq('~', []int{1})), 4},
		{"\x1b[27;5;99~", reply(seq('~', []int{27}, []int{5}, []int{99})), 10},
		{"\x1b[u", reply(seq('u')), 3},
		{"\x1b[1u", reply(seq('u', []int{1})), 4},
		{"\x1b[57352u", reply(seq('u', []int{57352})), 8},
		{"\x1b[57366u", reply(seq('u', []int{57366})), 8},
		{"\x1b[97:65u", reply(seq('u', []int{97, 65})), 8},
		{"\x1b[97:;2u", reply(seq('u', []int{97, -1}, []int{2})), 8},
		{"\x1b[97::97u", reply(seq('u', []int{97, -1, 97})), 9},
		{"\x1b[97:65:;2u", reply(seq('u', []int{97, 65, -1}, []int{2})), 11},
		{"\x1b[97:65:113:1;2u", reply(seq('u', []int{97, 65, 113, 1}, []int{2})), 16},
		{"\x1b[97:57352;2u", reply(seq('u', []int{97, 57352}, []int{2})), 13},
		{"\x1b[97:0;2u", reply(seq('u', []int{97, 0}, []int{2})), 9},
		{"\x1b[97::0u", reply(seq('u', []int{97, -1, 0})), 8},
		{"\x1b[97;1:3;97u", reply(seq('u', []int{97}, []int{1, 3}, []int{97})), 12},
		{"\x1b[97;;55296u", reply(seq('u', []int{97}, []int{-1}, []int{55296})), 12},
		{"\x1b[97;;127u", reply(seq('u', []int{97}, []int{-1}, []int{127})), 10},
		{"\x1b[97;;97:u", reply(seq('u', []int{97}, []int{-1}, []int{97, -1})), 10},
		{"\x1b[?5u", reply(api.Seq{Kind: 1, Private: '?', Params: [][]int{{5}}, Final: 'u'}), 5},
		{"\x1b[97 u", reply(api.Seq{Kind: 1, Params: [][]int{{97}}, Inter: " ", Final: 'u'}), 6},

		// Mice.
		{"\x1b[<0;1;1M", Item{Kind: 2, Mouse: api.Mouse{Button: 1, Type: 1, X: 1, Y: 1}}, 9},
		{"\x1b[<2;65535;7m", Item{Kind: 2, Mouse: api.Mouse{Button: 3, Type: 3, X: 65535, Y: 7}}, 13},
		{"\x1b[<63;5;6M", Item{Kind: 2, Mouse: api.Mouse{Type: 4, X: 5, Y: 6, Mods: 7}}, 10},
		{"\x1b[<69;5;6M", Item{Kind: 2, Mouse: api.Mouse{Button: 5, Type: 1, X: 5, Y: 6, Mods: 1}}, 10},
		{"\x1b[<64;5;6m", reply(api.Seq{Kind: 1, Private: '<', Params: [][]int{{64}, {5}, {6}}, Final: 'm'}), 10},
		{"\x1b[<0;0;1M", reply(api.Seq{Kind: 1, Private: '<', Params: [][]int{{0}, {0}, {1}}, Final: 'M'}), 9},
		{"\x1b[32;1;1M", reply(seq('M', []int{32}, []int{1}, []int{1})), 9},
		{"\x1b[M !!", reply(seq('M')), 3},

		// The focus, and pastes.
		{"\x1b[O", Item{Kind: 3}, 3},
		{"\x1b[Oabc", Item{Kind: 3}, 3},
		{"\x1b[1I", reply(seq('I', []int{1})), 4},
		{"\x1bOI", reply(api.Seq{Kind: 2, Final: 'I'}), 3},
		{"\x1b[200~\x1b[201~", Item{Kind: 4}, 12},
		{"\x1b[200~a\r\n\t\u00e9\x1b[201~\x1b[201~", Item{Kind: 4, Paste: "a\r\n\t\u00e9"}, 18},
		{"\x1b[200~a\x1b[200~b\x1b[201~", reply(seq('~', []int{200})), 6},
		{"\x1b[200~a\x00\x1b[201~", reply(seq('~', []int{200})), 6},
		{"\x1b[200~", reply(seq('~', []int{200})), 6},
		{"\x1b[201~", reply(seq('~', []int{201})), 6},

		// Others.
		{"\x1b[?62;22c", reply(api.Seq{Kind: 1, Private: '?', Params: [][]int{{62}, {22}}, Final: 'c'}), 9},
		{"\x1bOA", reply(api.Seq{Kind: 2, Final: 'A'}), 3},
		{"\x1bP1$r0m\x1b\\x", reply(api.Seq{Kind: 3, Params: [][]int{{1}}, Inter: "$", Final: 'r', Data: "0m"}), 9},
		{"\x1b]0;u\x1b\\", reply(api.Seq{Kind: 4, Data: "0;u"}), 7},
		{"\x1bc", reply(api.Seq{Kind: 5, Final: 'c'}), 2},
		{"\x1b(B", reply(api.Seq{Kind: 5, Inter: "(", Final: 'B'}), 3},
	} {
		for _, behind := range []string{"", "x", "\x1b[A", "\x1b", "\x00"} {
			checkIs(t, r.text+behind, r.want, r.n, true)
		}
		checkOne(t, r.text)
	}
}

// P22.2: what begins with no item.
func TestOneOfNone(t *testing.T) {
	l := []string{
		"", "a", "abc\x1b[A", "\x1b", "\x1b\x1b[A", "\x1b[", "\x1b[1", "\x1b[1;", "\x1b[97;5", "\x1b[<0;1;1", "\x1b[200", "\x1bO", "\x1bP1$r", "\x1b]0;\x1b", "\x1b]0\a",
		"\x1b[01A", "\x1b[1114112u", "\x1b[097u", "\x1b[1\x00A", "\x9b97u", "\x1b^a\x1b\\", "\x1b_a\x1b\\", "\x1bX\x1b\\", "\x1b\\", "\xff", "\x00", "\x7f", "\u00e9",
		"\x1b[" + strings.Repeat(";", 16) + "u", "\x1b[97" + strings.Repeat(":1", 8) + "u", "\x1b]" + strings.Repeat("x", 4097) + "\x1b\\", "[A", "\x1b[\u00e9",
	}
	for c := range 256 {
		l = append(l, string([]byte{byte(c)}), string([]byte{byte(c), '[', 'A'})[:1+c%3])
	}
	for _, s := range l {
		if s == "\x1b[A" || s == "\x1b[I" {
			continue
		}
		checkIs(t, s, Item{}, 0, false)
		checkOne(t, s)
	}
	checkIs(t, "\x1b]"+strings.Repeat("x", 4096)+"\x1b\\", Item{Kind: 5, Reply: api.Seq{Kind: 4, Data: strings.Repeat("x", 4096)}}, 4100, true)
	if i, n, ok := One(nil); !like(i, Item{}) || n != 0 || ok {
		t.Errorf("One(nil) = %+v, %d, %v", i, n, ok)
	}
}

// P22.2, P22.4: what kitty.Key sends of each event, as Told tells it, with all flags: that event. With fewer, what is sent is told by the chapter, and with Clear, Events and All as those tell it.
func TestOneOfKeys(t *testing.T) {
	for i, code := range keyCodes() {
		for j, k := range dress(code) {
			for typ := 1; typ <= 3; typ++ {
				for m := (i + j) % 17; m < 256; m += 17 {
					k.Mods, k.Type = m, typ
					b := kitty.Key(31, k)
					checkIs(t, string(b), Item{Kind: 1, Key: wantTold(31, k)}, len(b), true)
					if m < 34 {
						checkFlags(t, k)
					}
				}
			}
		}
	}
}

// checkFlags holds what is told back of an event that may be, sent with each set of flags.
func checkFlags(t *testing.T, k api.Key) {
	t.Helper()
	for flags := range 32 {
		b := kitty.Key(flags, k)
		if flags&11 == 11 {
			checkIs(t, string(b), Item{Kind: 1, Key: wantTold(flags, k)}, len(b), true)
			continue
		}
		want, n, ok := wantOne(string(b))
		checkIs(t, string(b), want, n, ok)
	}
}

// P22.2: each code alone, and each number beside the codes: with each final byte that a key's form may have, and with others.
func TestOneOfEachNumber(t *testing.T) {
	for code := range 70000 {
		checkNumber(t, code, 'u')
		if code < 300 || 57300 < code && code < 57500 {
			for final := byte('@'); final <= '~'; final++ {
				checkNumber(t, code, final)
			}
		}
	}
	for code := 70000; code <= 1114112; code += 97 {
		checkNumber(t, code, 'u')
		checkNumber(t, code, '~')
	}
	checkNumber(t, 1114111, 'u')
	checkNumber(t, 1114112, 'u')
}

// checkNumber holds a sequence of one number against the chapter, and of that number with modifiers.
func checkNumber(t *testing.T, n int, final byte) {
	t.Helper()
	for _, s := range []string{"\x1b[" + strconv.Itoa(n) + string(rune(final)), "\x1b[" + strconv.Itoa(n) + ";5" + string(rune(final))} {
		want, size, ok := wantOne(s)
		checkIs(t, s, want, size, ok)
	}
}

// P22.2: what is near to a key's sequence: each parameter, and each part of one, that may stand there or not; a part more, and a parameter more.
func TestOneNearKeys(t *testing.T) {
	firsts := []string{
		"", "0", "1", "2", "13", "97", "9", "57352", "57441", "57399", "128", "55296", "1114111", "1114112", "097",
		"97:", "97:65", "97:65:113", "97::113", "97:65:", "97::", "97:0", "97::0", "97::97", "97:97", "97:57352", "97::57352", "97:31", "97:65:113:1", "97:65:113:", ":65", "1:1", "1:65:113", "13:65",
	}
	seconds := []string{"", ";", ";0", ";1", ";2", ";5", ";256", ";257", ";65536", ";1114111", ";1:1", ";1:2", ";1:3", ";1:4", ";1:0", ";1:", ";2:1", ";2:2", ";2:3", ";2:4", ";:2", ";:3", ";2:2:1", ";2:3:", ";256:3", ";257:3", ";0:3"}
	thirds := []string{"", ";", ";97", ";0", ";31", ";32", ";126", ";127", ";159", ";160", ";55295", ";55296", ";57343", ";57344", ";65533", ";1114111", ";97:98", ";97:", ";:97", ";97::98", ";1:2:3:4:5:6:7:8", ";33:34:35:36:37:38:39:40", ";97;", ";97;1", ";;", ";10", ";27", ";97:27"}
	for _, first := range firsts {
		for _, second := range seconds {
			for _, third := range thirds {
				for _, final := range []string{"u", "~", "A", "P", "R", "E", "t"} {
					s := "\x1b[" + first + second + third + final
					want, n, ok := wantOne(s)
					checkIs(t, s, want, n, ok)
				}
			}
		}
	}
}

// edits are a text with one byte more in each place, one less, and one changed.
func edits(text string) []string {
	var l []string
	for at := range len(text) + 1 {
		for c := range 256 {
			l = append(l, text[:at]+string([]byte{byte(c)})+text[at:])
			if at < len(text) {
				l = append(l, text[:at]+string([]byte{byte(c)})+text[at+1:])
			}
		}
		if at < len(text) {
			l = append(l, text[:at]+text[at+1:])
		}
	}
	return l
}

// samples are items as bytes, some of each kind.
func samples() []string {
	return []string{
		"\x1b[97u", "\x1b[97:65:113;2:2;65:66u", "\x1b[97::113;;233u", "\x1b[A", "\x1b[1;5:3D", "\x1b[13~", "\x1b[24;256:2;120~", "\x1b[57441;2:3u",
		"\x1b[<0;1;1M", "\x1b[<131;65535;65535m", "\x1b[<35;10;20M", "\x1b[<92;3;4M",
		"\x1b[I", "\x1b[O", "\x1b[200~\x1b[201~", "\x1b[200~a\t\u00e9\U0001F600\x1b[201~",
		"\x1b[?62;22c", "\x1b[3;4R", "\x1b[?2004;2$y", "\x1bOP", "\x1bP1$r0;1m\x1b\\", "\x1b]52;c;\x1b\\", "\x1bc", "\x1b(B", "\x1b[201~", "\x1b[M",
	}
}

// P22.2: items with one byte more, one less, and one changed; and cut anywhere.
func TestOneOfEdits(t *testing.T) {
	for _, s := range samples() {
		for _, edit := range append(edits(s), s) {
			want, n, ok := wantOne(edit)
			checkIs(t, edit, want, n, ok)
		}
		for at := range len(s) {
			checkOne(t, s[:at])
		}
	}
}

// mice are mouse's events that may be, of each button and type.
func mice() []api.Mouse {
	var l []api.Mouse
	for button := range 12 {
		for _, typ := range []int{1, 3, 4} {
			wheel := 4 <= button && button <= 7
			if button == 0 && typ != 4 || wheel && typ != 1 {
				continue
			}
			l = append(l, api.Mouse{Button: button, Type: typ, X: 1, Y: 1})
		}
	}
	return l
}

// P22.2, P22.4: what a mouse sends, in each mode and coding: with 1006 it is told back, but for modifiers that aren't told.
func TestOneOfMice(t *testing.T) {
	for _, e := range mice() {
		for m := range 256 {
			for _, cell := range [][2]int{{1, 1}, {5, 6}, {223, 224}, {65535, 1}, {65535, 65535}} {
				e.Mods, e.X, e.Y = m, cell[0], cell[1]
				for _, mode := range []int{0, 9, 1000, 1002, 1003} {
					want := e
					want.Mods &= 7
					if mode == 9 {
						want.Mods = 0
					}
					b := mouse.Encode(mode, 1006, e)
					checkIs(t, string(b), Item{Kind: 2, Mouse: want}, len(b), true)
				}
				if m < 16 {
					checkCodings(t, e)
				}
			}
		}
	}
}

// checkCodings holds against the chapter what a mouse sends in the other codings.
func checkCodings(t *testing.T, e api.Mouse) {
	t.Helper()
	for _, coding := range []int{0, 1005, 1015, -1} {
		s := string(mouse.Encode(1003, coding, e))
		checkOne(t, s)
		checkAll(t, s)
		if i, _, ok := One([]byte(s)); ok && i.Kind != Reply {
			t.Fatalf("%+v sends %q, which is told as %+v", e, s, i)
		}
	}
}

// P22.2: of mice, each number, and cells beside those that may be.
func TestOneNearMice(t *testing.T) {
	for n := -1; n < 400; n++ {
		for _, cell := range []string{";1;1", ";0;1", ";1;0", ";65535;65535", ";65536;1", ";1;65536", ";;1", ";1;", ";1", "", ";1;1;1", ";1:1;1", ";01;1"} {
			for _, final := range []string{"M", "m", "u", "N"} {
				s := "\x1b[<" + strconv.Itoa(n) + cell + final
				want, size, ok := wantOne(s)
				checkIs(t, s, want, size, ok)
			}
		}
	}
}

// P22.2: pastes of all that is clean, and of what isn't; cut anywhere.
func TestOneOfPastes(t *testing.T) {
	for c := range 0x110000 {
		// All code points of one and two bytes, and those beside the borders of the greater ones.
		if c > 4096 && c%4001 > 2 && c != 0xffff && c != 0x10000 && c != 0x10ffff {
			continue
		}
		s := "\x1b[200~a" + string(rune(c)) + "\x1b[201~"
		if c == 0xfffd || 0xd800 <= c && c <= 0xdfff {
			continue
		}
		want, n, ok := wantOne(s)
		checkIs(t, s, want, n, ok)
	}
	checkIs(t, "\x1b[200~\ufffd\x1b[201~", Item{Kind: 4, Paste: "\ufffd"}, 15, true)
	for c := range 256 {
		s := "\x1b[200~a" + string([]byte{byte(c)}) + "\x1b[201~"
		clean := c == 9 || c == 10 || c == 13 || 32 <= c && c < 127
		if clean {
			checkIs(t, s, Item{Kind: 4, Paste: "a" + string(rune(c))}, 14, true)
		} else {
			checkIs(t, s, Item{Kind: 5, Reply: seq('~', []int{200})}, 6, true)
		}
	}
	for _, p := range []string{"", "a", "[A", "[201~", "200~", strings.Repeat("\u20ac\n", 9999)} {
		s := "\x1b[200~" + p + "\x1b[201~"
		checkIs(t, s, Item{Kind: 4, Paste: p}, len(s), true)
		checkIs(t, s+s, Item{Kind: 4, Paste: p}, len(s), true)
		checkIs(t, s[:len(s)-1], Item{Kind: 5, Reply: seq('~', []int{200})}, 6, true)
		for at := 0; at < len(s); at += 1 + len(s)/99 {
			checkOne(t, s[:at])
		}
	}
}

// P22.2: all short rows of bytes that matter.
func TestOneOfShortRows(t *testing.T) {
	const matter = "\x1b[1;:3<uA~MIOP]\\ \x00\xff"
	var try func(s string, left int)
	try = func(s string, left int) {
		want, n, ok := wantOne(s)
		checkIs(t, s, want, n, ok)
		if left == 0 {
			return
		}
		for i := range len(matter) {
			try(s+matter[i:i+1], left-1)
		}
	}
	try("", 3)
	try("\x1b[", 4)
	try("\x1b[97", 3)
	try("\x1b[<0;", 3)
	try("\x1b[200~", 3)
}

// P22.2: all two bytes, and all three behind the escape byte and a bracket.
func TestOneOfAllBytes(t *testing.T) {
	for a := range 256 {
		for b := range 256 {
			for _, s := range []string{string([]byte{byte(a), byte(b)}), "\x1b[" + string([]byte{byte(a), byte(b)}), "\x1b[1;5" + string([]byte{byte(a), byte(b)})} {
				want, n, ok := wantOne(s)
				checkIs(t, s, want, n, ok)
			}
		}
	}
}

// P22.3: items one behind the other, written out.
func TestAllRows(t *testing.T) {
	text := "\x1b[97u\x1b[I\x1b[<0;1;1M\x1b[200~hi\x1b[201~\x1b[?5u\x1b[O\x1bP1$r0m\x1b\\"
	l, ok := All([]byte(text))
	want := []Item{
		{Kind: 1, Key: api.Key{Code: 97, Type: 1}},
		{Kind: 3, In: true},
		{Kind: 2, Mouse: api.Mouse{Button: 1, Type: 1, X: 1, Y: 1}},
		{Kind: 4, Paste: "hi"},
		{Kind: 5, Reply: api.Seq{Kind: 1, Private: '?', Params: [][]int{{5}}, Final: 'u'}},
		{Kind: 3},
		{Kind: 5, Reply: api.Seq{Kind: 3, Params: [][]int{{1}}, Inter: "$", Final: 'r', Data: "0m"}},
	}
	if !ok || !slices.EqualFunc(l, want, like) {
		t.Errorf("All(%q) = %+v, %v", text, l, ok)
	}
	for _, none := range []string{"a", "\x1b[97ua", "a\x1b[97u", text + "\x1b", "\x1b[97u\x1b[I\x00\x1b[97u"} {
		if l, ok := All([]byte(none)); len(l) != 0 || ok {
			t.Errorf("All(%q) = %+v, %v", none, l, ok)
		}
	}
	for _, empty := range [][]byte{nil, {}} {
		if l, ok := All(empty); len(l) != 0 || !ok {
			t.Errorf("All of no bytes = %+v, %v", l, ok)
		}
	}
}

// P22.3: the chapter's example.
func TestExample(t *testing.T) {
	l, ok := All([]byte("\x1b[97u\x1b[I"))
	if !ok || len(l) != 2 || l[0].Kind != Key || l[0].Key != (api.Key{Code: 97, Type: api.Press}) || l[1].Kind != Focus || !l[1].In {
		t.Errorf("All = %+v, %v", l, ok)
	}
}

// P22.3: pairs of items, and rows of many: whole, cut anywhere, and with one byte spoilt, left out or put between.
func TestAllOfRows(t *testing.T) {
	for _, a := range samples() {
		for _, b := range append(samples(), "", "x", "\x1b", "\x1b[200~", "\x1b[201~") {
			checkAll(t, a+b)
			checkAll(t, b+a)
		}
	}
	text := strings.Join(samples(), "")
	checkAll(t, text)
	for at := range len(text) {
		checkAll(t, text[:at])
		checkAll(t, text[at:])
		checkAll(t, text[:at]+text[at+1:])
		for _, c := range []byte("\x00\x1b[x1;~uMI\xff") {
			checkAll(t, text[:at]+string([]byte{c})+text[at+1:])
			checkAll(t, text[:at]+string([]byte{c})+text[at:])
		}
	}
}

// P22.3: very many items take no more time than they ask, and a mark without its end neither.
func TestAllOfLongRows(t *testing.T) {
	for _, s := range []string{"\x1b[A", "\x1b[200~", "\x1b[<0;1;1M", "\x1b[200~\x1b[201~", "\x1bc"} {
		l, ok := All([]byte(strings.Repeat(s, 50000)))
		want, _, _ := wantOne(s)
		if !ok || len(l) != 50000 || !like(l[0], want) || !like(l[49999], want) {
			t.Errorf("All of many %q: %d items, %v", s, len(l), ok)
		}
	}
	if l, ok := All([]byte("\x1b[200~" + strings.Repeat("x", 1<<20))); ok || len(l) != 0 {
		t.Error("All of a paste without its end:", len(l), ok)
	}
}

// chance is a row of numbers of a fixed seed.
type chance uint64

// upTo is the next number, below n.
func (c *chance) upTo(n int) int {
	*c = *c*6364136223846793005 + 1442695040888963407
	return int(uint64(*c) >> 33 % uint64(n))
}

// pick is one of a list.
func pick[T any](c *chance, l []T) T {
	return l[c.upTo(len(l))]
}

// anyKey is a key's event that may be.
func anyKey(c *chance, codes []int) api.Key {
	points := []string{"", "", "a", "\u00e9", "\u20ac", "\U0001F600", " ", "~", "\u00a0", "\ufffd"}
	k := api.Key{Code: pick(c, codes), Mods: c.upTo(256), Type: 1 + c.upTo(3)}
	if c.upTo(3) == 0 {
		k.Mods = c.upTo(2)
	}
	k.Shifted = pick(c, []int{0, 'A', k.Code, 233, 1114111})
	k.Base = pick(c, []int{0, 'q', k.Code, 8364})
	if !isText(k.Shifted) {
		k.Shifted = 0
	}
	if !isText(k.Base) {
		k.Base = 0
	}
	for range c.upTo(9) {
		k.Text += pick(c, points)
	}
	return k
}

// anyReply is a sequence that is a reply alone.
func anyReply(c *chance) api.Seq {
	return pick(c, []api.Seq{
		wire.Num('?', 'c', 62, 22), wire.Num('>', 'c', 1, 0, 0), wire.Num(0, 'n', 0), wire.Num(0, 'R', 3, 4), wire.Num('?', 'u', c.upTo(32)),
		wire.Num('?', 'R', c.upTo(99), 2, 1), wire.Num(0, 'R', 1, 1+c.upTo(9)), wire.Num(0, '~', 201), wire.Num(0, '~', 27, 5, 99), wire.Num(0, 'I', 1),
		{Kind: api.CSI, Private: '?', Params: [][]int{{2004}, {1}}, Inter: "$", Final: 'y'},
		{Kind: api.DCS, Params: [][]int{{1}}, Inter: "$", Final: 'r', Data: "0;1m"}, {Kind: api.DCS, Params: [][]int{{0}}, Inter: "+", Final: 'r'},
		{Kind: api.DCS, Private: '>', Final: '|', Data: "clavier(1)"}, {Kind: api.OSC, Data: "52;c;YQ=="}, {Kind: api.OSC}, {Kind: api.SS3, Final: 'P'}, {Kind: api.ESC, Inter: "#", Final: '8'},
	})
}

// anySent is an item, and its bytes as they are sent: with flags that have Clear, Events and All, and with 1006.
func anySent(c *chance, codes []int, buttons []api.Mouse) (Item, []byte) {
	switch 1 + c.upTo(5) {
	case Key:
		flags, k := 11+pick(c, []int{0, 4, 16, 20, 32, 64 + 20}), anyKey(c, codes)
		return Item{Kind: Key, Key: wantTold(flags, k)}, kitty.Key(flags, k)
	case Mouse:
		e := pick(c, buttons)
		e.X, e.Y, e.Mods = 1+c.upTo(65535), 1+c.upTo(300), c.upTo(256)
		b := mouse.Encode(1003, 1006, e)
		e.Mods &= 7
		return Item{Kind: Mouse, Mouse: e}, b
	case Focus:
		in := c.upTo(2) == 0
		return Item{Kind: Focus, In: in}, paste.Focus(api.Modes{Focus: true}, in)
	case Paste:
		var p []byte
		for range c.upTo(20) {
			p = append(p, pick(c, []string{"a", "\x1b[200~", "\x1b[201~", "\x1b", "\x00", "\u00e9", "\xff", "\U0001F600", "\n", "\u009b", "97u", "\x1b[I"})...)
		}
		return Item{Kind: Paste, Paste: string(paste.Clean(p))}, paste.Send(api.Modes{Paste: true}, p)
	}
	s := anyReply(c)
	b, _ := wire.Put(s)
	return Item{Kind: Reply, Reply: s}, b
}

// P22.4: what is sent, one behind the other in any turn, is told back; and cut anywhere, or spoilt, it is told by the chapter.
func TestAllIsToldBack(t *testing.T) {
	c := chance(22)
	codes, buttons := keyCodes(), mice()
	for range 4000 {
		var want []Item
		var b []byte
		for range c.upTo(13) {
			i, sent := anySent(&c, codes, buttons)
			want = append(want, i)
			b = append(b, sent...)
		}
		got, ok := All(b)
		if !ok || !slices.EqualFunc(got, want, like) || !slices.EqualFunc(got, want, Same) {
			t.Fatalf("All(%q) = %+v, %v, not %+v", b, got, ok, want)
		}
		if len(b) > 0 {
			checkAll(t, string(b[:c.upTo(len(b))]))
			b[c.upTo(len(b))] = byte(c.upTo(256))
			// The sign of what is no code point can't be told from it in what is wanted.
			if utf8.Valid(b) {
				checkAll(t, string(b))
			}
		}
	}
}

// P22.4: two events are told back as one just if they are told alike.
func TestAllIsInjective(t *testing.T) {
	c := chance(4)
	sent := map[string]api.Key{}
	codes := []int{'a', 57352, 57366, 13, 57399, 57441}
	for range 30000 {
		k := anyKey(&c, codes)
		told := Told(31, k)
		b := string(kitty.Key(31, k))
		if other, ok := sent[b]; ok && other != told {
			t.Fatalf("%+v and %+v send %q", other, told, b)
		}
		sent[b] = told
		i, n, ok := One([]byte(b))
		if !ok || n != len(b) || i.Kind != Key || i.Key != told {
			t.Fatalf("One(%q) = %+v, %d, %v", b, i, n, ok)
		}
	}
}

// full is an item whose every part is there.
func full() Item {
	return Item{
		Kind:  5,
		Key:   api.Key{Code: 97, Mods: 1, Type: 2, Shifted: 65, Base: 113, Text: "t"},
		Mouse: api.Mouse{Button: 1, Type: 2, X: 3, Y: 4, Mods: 5},
		In:    true,
		Paste: "p",
		Reply: api.Seq{Kind: 1, Private: '?', Params: [][]int{{1, 2}, {3}}, Inter: "$", Final: 'y', Data: "d"},
	}
}

// changes are items that differ from full in one place alone.
func changes() map[string]Item {
	l := map[string]Item{}
	change := func(name string, set func(*Item)) {
		i := full()
		set(&i)
		l[name] = i
	}
	for _, by := range []int{1, -1, 1 << 8, 1 << 32, math.MinInt} {
		n := " by " + strconv.Itoa(by)
		change("Kind"+n, func(i *Item) { i.Kind += by })
		change("Code"+n, func(i *Item) { i.Key.Code += by })
		change("Key.Mods"+n, func(i *Item) { i.Key.Mods += by })
		change("Key.Type"+n, func(i *Item) { i.Key.Type += by })
		change("Shifted"+n, func(i *Item) { i.Key.Shifted += by })
		change("Base"+n, func(i *Item) { i.Key.Base += by })
		change("Button"+n, func(i *Item) { i.Mouse.Button += by })
		change("Mouse.Type"+n, func(i *Item) { i.Mouse.Type += by })
		change("X"+n, func(i *Item) { i.Mouse.X += by })
		change("Y"+n, func(i *Item) { i.Mouse.Y += by })
		change("Mouse.Mods"+n, func(i *Item) { i.Mouse.Mods += by })
		change("Reply.Kind"+n, func(i *Item) { i.Reply.Kind += by })
		change("part"+n, func(i *Item) { i.Reply.Params[0][1] += by })
		change("last part"+n, func(i *Item) { i.Reply.Params[1][0] += by })
	}
	for _, s := range []string{"", "x", "tt", "pp", "$$", "dd", "T", "\x00"} {
		change("Text "+s, func(i *Item) { i.Key.Text = s })
		change("Paste "+s, func(i *Item) { i.Paste = s })
		change("Inter "+s, func(i *Item) { i.Reply.Inter = s })
		change("Data "+s, func(i *Item) { i.Reply.Data = s })
	}
	change("In", func(i *Item) { i.In = false })
	change("Private", func(i *Item) { i.Reply.Private = 0 })
	change("Final", func(i *Item) { i.Reply.Final = 'Y' })
	change("no parameters", func(i *Item) { i.Reply.Params = nil })
	change("one less", func(i *Item) { i.Reply.Params = i.Reply.Params[:1] })
	change("one more", func(i *Item) { i.Reply.Params = append(i.Reply.Params, []int{4}) })
	change("an empty one more", func(i *Item) { i.Reply.Params = append(i.Reply.Params, nil) })
	change("a part more", func(i *Item) { i.Reply.Params[1] = []int{3, 0} })
	change("a part less", func(i *Item) { i.Reply.Params[0] = []int{1} })
	change("cut elsewhere", func(i *Item) { i.Reply.Params = [][]int{{1}, {2, 3}} })
	change("turned", func(i *Item) { i.Reply.Params = [][]int{{3}, {1, 2}} })
	change("all but the kind", func(i *Item) { *i = Item{Kind: 5} })
	change("all", func(i *Item) { *i = Item{} })
	return l
}

// P22.3: items are the same just if all in them is, whatever their kind.
func TestSame(t *testing.T) {
	if !Same(full(), full()) || !Same(Item{}, Item{}) {
		t.Error("an item isn't the same as itself")
	}
	l := changes()
	for name, i := range l {
		if Same(full(), i) || Same(i, full()) || !Same(i, i) {
			t.Errorf("with %s changed: %v, %v, %v", name, Same(full(), i), Same(i, full()), Same(i, i))
		}
		for other, j := range l {
			if Same(i, j) != like(i, j) {
				t.Errorf("with %s and with %s changed: %v", name, other, Same(i, j))
			}
		}
	}
	for kind := range 7 {
		a, b := full(), full()
		a.Kind, b.Kind = kind, kind
		if !Same(a, b) {
			t.Errorf("Same of two of kind %d is false", kind)
		}
		b.Paste = ""
		if Same(a, b) {
			t.Errorf("Same of two of kind %d that differ is true", kind)
		}
	}
}

// P22.3: replies' parameters are the same by wire.Same: nil and empty ones are.
func TestSameOfNone(t *testing.T) {
	reply := func(params [][]int) Item { return Item{Kind: 5, Reply: seq('c', params...)} }
	for _, r := range []struct {
		a, b [][]int
		same bool
	}{
		{nil, [][]int{}, true}, {nil, nil, true},
		{[][]int{nil}, [][]int{{}}, true}, {[][]int{{1}, nil}, [][]int{{1}, {}}, true},
		{nil, [][]int{nil}, false}, {nil, [][]int{{}}, false}, {[][]int{{-1}}, [][]int{{}}, false}, {[][]int{{-1}}, [][]int{{0}}, false}, {[][]int{{-1}}, [][]int{{-2}}, false},
		{[][]int{{1}}, make([][]int, 1, 5), false}, {append(make([][]int, 0, 9), []int{1}), [][]int{{1}}, true},
	} {
		if Same(reply(r.a), reply(r.b)) != r.same || Same(reply(r.b), reply(r.a)) != r.same {
			t.Errorf("Same of %v and %v isn't %v", r.a, r.b, r.same)
		}
		if wire.Same(seq('c', r.a...), seq('c', r.b...)) != r.same {
			t.Errorf("wire.Same of %v and %v isn't %v", r.a, r.b, r.same)
		}
	}
}

// R3: what is handed in stays as it is, what is told shares nothing with it, and is the same when it is told again.
func TestToldIsTheCallersOwn(t *testing.T) {
	text := strings.Join(samples(), "")
	b := append(make([]byte, 0, len(text)+64), text...)
	spare := b[len(b):cap(b)]
	for i := range spare {
		spare[i] = '!'
	}
	first, _ := All(b)
	again, _ := All(b)
	if string(b) != text || strings.Trim(string(spare), "!") != "" {
		t.Fatal("what was handed in is changed")
	}
	want, _ := wantAll(text)
	for i := range b {
		b[i] = 'x'
	}
	if !slices.EqualFunc(first, want, like) || !slices.EqualFunc(again, want, like) {
		t.Fatal("what was told hangs on what was handed in")
	}
	for i := range first {
		first[i].Kind, first[i].Paste = 9, "changed"
		for _, parts := range first[i].Reply.Params {
			for j := range parts {
				parts[j] = 77
			}
			_ = append(parts, 78)
		}
		_ = append(first[i].Reply.Params, []int{79})
	}
	_ = append(first[:1], Item{})
	if third, ok := All([]byte(text)); !ok || !slices.EqualFunc(third, want, like) || !slices.EqualFunc(again, want, like) {
		t.Fatal("what was told is changed")
	}
}

// R3: One leaves the bytes as they are, those of the item and those behind it, and tells the same twice; R4: whatever was asked between.
func TestOneLeavesItsBytes(t *testing.T) {
	for _, s := range samples() {
		for _, behind := range behinds() {
			b := []byte(s + behind)
			want, n, ok := wantOne(s + behind)
			i, gotN, gotOK := One(b)
			All([]byte("\x1b[97u\x1b[200~zz\x1b[201~"))
			if string(b) != s+behind {
				t.Fatalf("One changes %q into %q", s+behind, b)
			}
			clear(b)
			if !like(i, want) || gotN != n || gotOK != ok {
				t.Fatalf("One(%q) is %+v, %d, %v, when its bytes are changed", s+behind, i, gotN, gotOK)
			}
			again, _, _ := One([]byte(s + behind))
			if !like(again, want) || !Same(i, again) {
				t.Fatalf("One(%q) told again is %+v, not %+v", s+behind, again, want)
			}
		}
	}
}

// R3: Same leaves its items as they are.
func TestSameLeavesItsItems(t *testing.T) {
	a, b := full(), full()
	b.Reply.Params[1][0] = 4
	Same(a, b)
	if !like(a, full()) || b.Reply.Params[1][0] != 4 {
		t.Error("Same changes its items")
	}
}

// P1: no call panics, whatever it is given.
func TestNoCallPanics(t *testing.T) {
	nums := append(ends(), 0, 1, 2, 3, 4, 31)
	for bits := range 63 {
		nums = append(nums, 1<<bits, -1<<bits, 1<<bits-1, 1<<bits+1)
	}
	for _, n := range nums {
		for _, m := range nums {
			checkTold(t, n, api.Key{Code: m, Mods: n, Type: m, Shifted: n, Base: m, Text: "\xff"})
			checkTold(t, m, api.Key{Code: n, Mods: m, Type: n, Shifted: n, Base: n})
		}
		Same(Item{Kind: n}, Item{Key: api.Key{Code: n}, Reply: api.Seq{Kind: n, Params: [][]int{nil, {n}}}})
		checkOne(t, "\x1b["+strconv.Itoa(n)+"u")
		checkOne(t, "\x1b[1;"+strconv.Itoa(n)+"A")
		checkOne(t, "\x1b[<0;"+strconv.Itoa(n)+";1M")
	}
	c := chance(1)
	for range 20000 {
		b := make([]byte, c.upTo(24))
		for i := range b {
			b[i] = byte(c.upTo(256))
		}
		if len(b) > 2 && c.upTo(2) == 0 {
			copy(b, "\x1b[")
		}
		One(b)
		All(b)
	}
}

// R2: nil and empty bytes are the same.
func TestNilAndEmpty(t *testing.T) {
	for _, b := range [][]byte{nil, {}, make([]byte, 0, 8)} {
		if i, n, ok := One(b); !like(i, Item{}) || n != 0 || ok {
			t.Errorf("One of no bytes = %+v, %d, %v", i, n, ok)
		}
		if l, ok := All(b); len(l) != 0 || !ok {
			t.Errorf("All of no bytes = %+v, %v", l, ok)
		}
	}
	if !Same(Item{Reply: api.Seq{Params: [][]int{}}}, Item{}) {
		t.Error("an item with an empty list isn't the same as one with none")
	}
}
