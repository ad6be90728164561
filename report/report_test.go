package report

import (
	"maps"
	"math"
	"slices"
	"strconv"
	"strings"
	"testing"

	"clavier/api"
	"clavier/modes"
	"clavier/style"
	"clavier/wire"
)

// The calls are as the chapter has them.
var (
	_ func(byte) api.Seq                 = Attributes
	_ func(api.Screen, bool) api.Seq     = Place
	_ func(api.Modes, bool, int) api.Seq = Mode
	_ func(api.Screen, string) api.Seq   = Setting
	_ func() api.Seq                     = Version
	_ func(int) api.Seq                  = Flags
	_ func() api.Seq                     = Fine
)

// refusal is the reply to what isn't known as a setting, written out.
var refusal = api.Seq{Kind: api.DCS, Params: [][]int{{0}}, Inter: "$", Final: 'r'}

// check ends the test, if a reply isn't as it ought to be, or isn't one sequence that may be.
func check(t *testing.T, what string, got, want api.Seq) {
	t.Helper()
	if !wire.Same(got, want) {
		t.Fatalf("%s: %+v, not %+v", what, got, want)
	}
	if err := wire.May(got); err != api.OK {
		t.Fatalf("%s: %+v may not be: %d", what, got, err)
	}
	b, _ := wire.Put(got)
	back, n, err := wire.Take(b)
	if err != api.OK || n != len(b) || !wire.Same(back, got) {
		t.Fatalf("%s: %q is taken as %+v, %d, %d", what, b, back, n, err)
	}
}

// checkBytes ends the test, if a reply's bytes aren't these, behind an escape byte.
func checkBytes(t *testing.T, got api.Seq, want string) {
	t.Helper()
	b, err := wire.Put(got)
	if err != api.OK || string(b) != "\x1b"+want {
		t.Fatalf("%q, %d, not %q", b, err, want)
	}
	s, _, err := wire.Take([]byte("\x1b" + want))
	if err != api.OK {
		t.Fatalf("%q is no sequence", want)
	}
	check(t, want, got, s)
}

// numbers are a CSI of numbers, written out.
func numbers(private, final byte, inter string, nums ...int) api.Seq {
	s := api.Seq{Kind: api.CSI, Private: private, Inter: inter, Final: final}
	for _, n := range nums {
		s.Params = append(s.Params, []int{n})
	}
	return s
}

// told is the reply to what is known as a setting, written out.
func told(data string) api.Seq {
	return api.Seq{Kind: api.DCS, Params: [][]int{{1}}, Inter: "$", Final: 'r', Data: data}
}

// mark is the byte that asks privately.
func mark(private bool) byte {
	if private {
		return '?'
	}
	return 0
}

// wantFact is a fact, by the chapter's words.
func wantFact(n int) int {
	switch {
	case n < 0:
		return 0
	case n > 65535:
		return 65535
	}
	return n
}

// wantHow is how a mode is, written out.
func wantHow(m api.Modes, private bool, n int) int {
	is := func(set bool) int {
		if set {
			return 1
		}
		return 2
	}
	if !private {
		switch n {
		case 2:
			return is(m.Lock)
		case 20:
			return is(m.Line)
		case 4, 12:
			return 4
		}
		return 0
	}
	switch n {
	case 1:
		return is(m.Cursor)
	case 66:
		return is(m.Keypad)
	case 67:
		return is(m.Back)
	case 1004:
		return is(m.Focus)
	case 2004:
		return is(m.Paste)
	case 9, 1000, 1002, 1003:
		return is(m.Mouse == n)
	case 1005, 1006, 1015:
		return is(m.Coding == n)
	case 7, 25:
		return 3
	}
	return 0
}

// wantSetting is the reply to what is asked of a setting, by the chapter's words.
func wantSetting(s api.Screen, ask string) api.Seq {
	fact := func(n int) string { return strconv.Itoa(wantFact(n)) }
	switch ask {
	case "m":
		if style.May(s.Style) {
			return told(style.Text(style.Params(s.Style)) + "m")
		}
	case "r":
		return told(fact(s.Top) + ";" + fact(s.Bottom) + "r")
	case "s":
		return told(fact(s.Left) + ";" + fact(s.Right) + "s")
	case " q":
		return told(fact(s.Shape) + " q")
	case "\"p":
		return told("62;1\"p")
	}
	return refusal
}

func checkPlace(t *testing.T, s api.Screen) {
	t.Helper()
	row, col := wantFact(s.Row), wantFact(s.Col)
	check(t, "the place", Place(s, false), numbers(0, 'R', "", row, col))
	check(t, "the private place", Place(s, true), numbers('?', 'R', "", row, col, 1))
}

func checkMode(t *testing.T, m api.Modes, private bool, n int) {
	t.Helper()
	want := numbers(mark(private), 'y', "$", wantFact(n), wantHow(m, private, n))
	check(t, "mode "+strconv.Itoa(n), Mode(m, private, n), want)
	if how := modes.Get(m, private, n); how != want.Params[1][0] {
		t.Fatalf("modes.Get(%+v, %v, %d) = %d", m, private, n, how)
	}
}

func checkSetting(t *testing.T, s api.Screen, ask string) {
	t.Helper()
	check(t, strconv.Quote(ask), Setting(s, ask), wantSetting(s, ask))
}

// asks are the five settings that are known.
func asks() []string { return []string{"m", "r", "s", " q", "\"p"} }

// ends are very small and very great numbers.
func ends() []int {
	return []int{
		math.MinInt, math.MinInt + 1, math.MinInt32 - 1, math.MinInt32, -1114111, -65537, -65536, -65535, -256,
		65534, 65535, 65536, 65537, 65600, 131071, 131072, 1114111, 1114112, math.MaxInt32, math.MaxInt32 + 1, math.MaxUint32, math.MaxUint32 + 1, math.MaxInt - 1, math.MaxInt,
	}
}

// wraps are numbers that would be n, if only their last bits were told.
func wraps(n int) []int {
	l := []int{n + math.MinInt}
	for _, bits := range []int{8, 16, 17, 24, 31, 32, 33, 62} {
		l = append(l, n+1<<bits, n-1<<bits)
	}
	return l
}

// ofAllKinds are numbers of all kinds.
func ofAllKinds() []int {
	l := append(ends(), wraps(1)...)
	l = append(l, wraps(0)...)
	return append(l, -3, -2, -1, 0, 1, 2, 3, 6, 7, 9, 10, 24, 80, 99, 100, 132, 999, 1000, 9999, 10000, 32767, 32768)
}

// screens are some of all kinds of facts, and styles that may be and that may not.
func screens() []api.Screen {
	return []api.Screen{
		{},
		{Rows: 24, Cols: 80, Row: 3, Col: 4, Top: 1, Bottom: 24, Left: 2, Right: 79, Shape: 5, Style: api.Style{Bold: true, Fore: 1, Back: -1}},
		{Rows: 11, Cols: 12, Row: 13, Col: 14, Top: 15, Bottom: 16, Left: 17, Right: 18, Shape: 19, Style: api.Style{Under: 3, Strike: true, Fore: 300, Back: 12}},
		{Rows: -1, Cols: -2, Row: -3, Col: -4, Top: -5, Bottom: -6, Left: -7, Right: -8, Shape: -9, Style: api.Style{Under: -1, Fore: -1, Back: -1}},
		{Rows: 65536, Cols: 65537, Row: 65538, Col: 65539, Top: 65540, Bottom: 65541, Left: 65542, Right: 65543, Shape: 65544, Style: api.Style{Fore: -2, Back: 7}},
		{Row: math.MinInt, Col: math.MaxInt, Top: math.MaxInt, Bottom: math.MinInt, Left: math.MinInt, Right: math.MaxInt, Shape: math.MaxInt, Style: api.Style{Fore: math.MaxInt, Back: math.MinInt}},
		{Row: 65535, Top: 65535, Bottom: 65534, Left: 65535, Right: 65533, Shape: 65535, Style: longest()},
	}
}

// longest is the style whose parameters are the longest.
func longest() api.Style {
	return api.Style{Bold: true, Faint: true, Italic: true, Blink: true, Inverse: true, Hidden: true, Strike: true, Under: 5, Fore: 16777471, Back: 16777471}
}

// someModes are modes that may be and that may not; each mode is set in some of them, and not in others.
func someModes() []api.Modes {
	return []api.Modes{
		{},
		{Cursor: true}, {Keypad: true}, {Back: true}, {Focus: true}, {Paste: true}, {Lock: true}, {Line: true},
		{Mouse: 9}, {Mouse: 1000}, {Mouse: 1002}, {Mouse: 1003}, {Coding: 1005}, {Coding: 1006}, {Coding: 1015}, {Other: 1}, {Other: 2},
		{Cursor: true, Keypad: true, Back: true, Focus: true, Paste: true, Lock: true, Line: true, Mouse: 1003, Coding: 1006, Other: 2},
		{Mouse: 1001}, {Mouse: -1, Coding: 1000}, {Mouse: 1006, Coding: 1003}, {Mouse: 25, Coding: 7, Other: 3}, {Mouse: 2, Coding: 20}, {Mouse: 65535, Coding: 65536},
		{Mouse: math.MinInt, Coding: math.MaxInt, Other: -1},
	}
}

// P19.1: what is told of the terminal, written out.
func TestAttributesRows(t *testing.T) {
	checkBytes(t, Attributes(0), "[?62;22c")
	checkBytes(t, Attributes('>'), "[>41;1;0c")
	checkBytes(t, Attributes('='), "P!|00000000\x1b\\")
	check(t, "0", Attributes(0), numbers('?', 'c', "", 62, 22))
	check(t, ">", Attributes('>'), numbers('>', 'c', "", 41, 1, 0))
	check(t, "=", Attributes('='), api.Seq{Kind: api.DCS, Inter: "!", Final: '|', Data: "00000000"})
}

// P19.1: of each other byte nothing is told.
func TestAttributesOfEachByte(t *testing.T) {
	none := 0
	for which := range 256 {
		got := Attributes(byte(which))
		if which == 0 || which == '>' || which == '=' {
			if got.Kind == 0 {
				t.Errorf("nothing is told of %d", which)
			}
			continue
		}
		none++
		if !wire.Same(got, api.Seq{}) {
			t.Errorf("%d: %+v", which, got)
		}
	}
	if none != 253 {
		t.Errorf("%d bytes", none)
	}
}

// P19.1: what hangs on nothing, written out.
func TestFineAndVersion(t *testing.T) {
	checkBytes(t, Fine(), "[0n")
	check(t, "fine", Fine(), numbers(0, 'n', "", 0))
	checkBytes(t, Version(), "P>|clavier(1)\x1b\\")
	check(t, "the version", Version(), api.Seq{Kind: api.DCS, Private: '>', Final: '|', Data: "clavier(1)"})
}

// P19.1: flags, written out, and of all numbers from -40 to 100, and far beyond.
func TestFlags(t *testing.T) {
	for n, want := range map[int]int{
		math.MinInt: 0, -65: 0, -33: 0, -32: 0, -31: 0, -1: 0, 0: 0, 1: 1, 2: 2, 16: 16, 31: 31, 32: 0, 33: 1, 63: 31, 64: 0,
		65535: 31, 65536: 0, 65537: 1, 1 << 32: 0, 1<<32 + 5: 5, math.MaxInt: 31,
	} {
		checkBytes(t, Flags(n), "[?"+strconv.Itoa(want)+"u")
	}
	l := ofAllKinds()
	for n := -40; n <= 100; n++ {
		l = append(l, n)
		l = append(l, wraps(n)...)
	}
	for _, n := range l {
		left := n & 31
		if n < 0 {
			left = 0
		}
		check(t, "flags of "+strconv.Itoa(n), Flags(n), numbers('?', 'u', "", left))
	}
}

// P19.2: places, written out.
func TestPlaceRows(t *testing.T) {
	for _, r := range []struct {
		row, col   int
		want, wide string
	}{
		{3, 4, "[3;4R", "[?3;4;1R"},
		{0, 0, "[0;0R", "[?0;0;1R"},
		{1, 1, "[1;1R", "[?1;1;1R"},
		{-1, 5, "[0;5R", "[?0;5;1R"},
		{5, -1, "[5;0R", "[?5;0;1R"},
		{65535, 65534, "[65535;65534R", "[?65535;65534;1R"},
		{65536, 1, "[65535;1R", "[?65535;1;1R"},
		{1, 65536, "[1;65535R", "[?1;65535;1R"},
		{65537, 131072, "[65535;65535R", "[?65535;65535;1R"},
		{math.MinInt, math.MaxInt, "[0;65535R", "[?0;65535;1R"},
		{math.MaxInt, math.MinInt, "[65535;0R", "[?65535;0;1R"},
	} {
		s := api.Screen{Row: r.row, Col: r.col}
		checkBytes(t, Place(s, false), r.want)
		checkBytes(t, Place(s, true), r.wide)
	}
}

// P19.2: places of all pairs of facts; nothing else of a screen is told.
func TestPlaces(t *testing.T) {
	for _, row := range ofAllKinds() {
		for _, col := range ofAllKinds() {
			for _, s := range screens()[:3] {
				s.Row, s.Col = row, col
				checkPlace(t, s)
			}
		}
	}
	for n := -300; n <= 70000; n++ {
		checkPlace(t, api.Screen{Row: n, Col: 65300 - n})
	}
}

// P19.2: modes, written out.
func TestModeRows(t *testing.T) {
	full := api.Modes{Cursor: true, Keypad: true, Back: true, Focus: true, Paste: true, Lock: true, Line: true, Mouse: 1003, Coding: 1006, Other: 2}
	for _, r := range []struct {
		private    bool
		n          int
		zero, full string
	}{
		{false, 2, "[2;2$y", "[2;1$y"},
		{false, 20, "[20;2$y", "[20;1$y"},
		{false, 4, "[4;4$y", "[4;4$y"},
		{false, 12, "[12;4$y", "[12;4$y"},
		{false, 1, "[1;0$y", "[1;0$y"},
		{false, 7, "[7;0$y", "[7;0$y"},
		{false, 1003, "[1003;0$y", "[1003;0$y"},
		{true, 1, "[?1;2$y", "[?1;1$y"},
		{true, 66, "[?66;2$y", "[?66;1$y"},
		{true, 67, "[?67;2$y", "[?67;1$y"},
		{true, 1004, "[?1004;2$y", "[?1004;1$y"},
		{true, 2004, "[?2004;2$y", "[?2004;1$y"},
		{true, 9, "[?9;2$y", "[?9;2$y"},
		{true, 1000, "[?1000;2$y", "[?1000;2$y"},
		{true, 1002, "[?1002;2$y", "[?1002;2$y"},
		{true, 1003, "[?1003;2$y", "[?1003;1$y"},
		{true, 1005, "[?1005;2$y", "[?1005;2$y"},
		{true, 1006, "[?1006;2$y", "[?1006;1$y"},
		{true, 1015, "[?1015;2$y", "[?1015;2$y"},
		{true, 7, "[?7;3$y", "[?7;3$y"},
		{true, 25, "[?25;3$y", "[?25;3$y"},
		{true, 2, "[?2;0$y", "[?2;0$y"},
		{true, 4, "[?4;0$y", "[?4;0$y"},
		{true, 20, "[?20;0$y", "[?20;0$y"},
		{false, 0, "[0;0$y", "[0;0$y"},
		{true, 0, "[?0;0$y", "[?0;0$y"},
		{true, -1, "[?0;0$y", "[?0;0$y"},
		{false, math.MinInt, "[0;0$y", "[0;0$y"},
		{true, 65535, "[?65535;0$y", "[?65535;0$y"},
		{true, 65536, "[?65535;0$y", "[?65535;0$y"},
		{false, 65536 + 2, "[65535;0$y", "[65535;0$y"},
		{true, 65536 + 25, "[?65535;0$y", "[?65535;0$y"},
		{true, math.MaxInt, "[?65535;0$y", "[?65535;0$y"},
	} {
		checkBytes(t, Mode(api.Modes{}, r.private, r.n), r.zero)
		checkBytes(t, Mode(full, r.private, r.n), r.full)
	}
}

// P19.2: all numbers from below 0 to above all modes, and those that would wrap round onto one, in modes that may be and that may not.
func TestModes(t *testing.T) {
	l := ofAllKinds()
	for n := -100; n <= 2100; n++ {
		l = append(l, n)
	}
	for _, n := range []int{1, 2, 4, 7, 9, 12, 20, 25, 66, 67, 1000, 1002, 1003, 1004, 1005, 1006, 1015, 2004} {
		l = append(l, -n)
		l = append(l, wraps(n)...)
	}
	for _, m := range someModes() {
		for _, n := range l {
			checkMode(t, m, false, n)
			checkMode(t, m, true, n)
		}
	}
}

// P19.2: of a number in Mouse or Coding that is no fact, too, how is told of the whole number.
func TestModesThatMayNotBe(t *testing.T) {
	for _, n := range append(ofAllKinds(), 9, 1000, 1005) {
		for _, m := range []api.Modes{{Mouse: n}, {Coding: n}, {Mouse: n, Coding: n}} {
			for _, asked := range []int{n, wantFact(n), 9, 1000, 1002, 1003, 1005, 1006, 1015} {
				checkMode(t, m, true, asked)
				checkMode(t, m, false, asked)
			}
		}
	}
}

// P19.3: settings, written out.
func TestSettingRows(t *testing.T) {
	for _, r := range []struct {
		s    api.Screen
		ask  string
		want string
	}{
		{api.Screen{Style: api.Style{Fore: -1, Back: -1}}, "m", "P1$r0m\x1b\\"},
		{api.Screen{}, "m", "P1$r0;30;40m\x1b\\"},
		{screens()[1], "m", "P1$r0;1;31m\x1b\\"},
		{screens()[2], "m", "P1$r0;4:3;9;38:2::0:0:44;104m\x1b\\"},
		{screens()[3], "m", "P0$r\x1b\\"},
		{screens()[4], "m", "P0$r\x1b\\"},
		{api.Screen{Style: longest()}, "m", "P1$r0;1;2;3;4:5;5;7;8;9;38:2::255:255:255;48:2::255:255:255m\x1b\\"},
		{api.Screen{}, "r", "P1$r0;0r\x1b\\"},
		{screens()[1], "r", "P1$r1;24r\x1b\\"},
		{screens()[3], "r", "P1$r0;0r\x1b\\"},
		{screens()[4], "r", "P1$r65535;65535r\x1b\\"},
		{screens()[5], "r", "P1$r65535;0r\x1b\\"},
		{api.Screen{}, "s", "P1$r0;0s\x1b\\"},
		{screens()[1], "s", "P1$r2;79s\x1b\\"},
		{screens()[3], "s", "P1$r0;0s\x1b\\"},
		{screens()[4], "s", "P1$r65535;65535s\x1b\\"},
		{screens()[5], "s", "P1$r0;65535s\x1b\\"},
		{api.Screen{}, " q", "P1$r0 q\x1b\\"},
		{screens()[1], " q", "P1$r5 q\x1b\\"},
		{screens()[3], " q", "P1$r0 q\x1b\\"},
		{screens()[4], " q", "P1$r65535 q\x1b\\"},
		{api.Screen{}, "\"p", "P1$r62;1\"p\x1b\\"},
		{screens()[4], "\"p", "P1$r62;1\"p\x1b\\"},
		{screens()[1], "", "P0$r\x1b\\"},
		{screens()[1], "q", "P0$r\x1b\\"},
		{screens()[1], "p", "P0$r\x1b\\"},
		{screens()[1], " ", "P0$r\x1b\\"},
		{screens()[1], "\"", "P0$r\x1b\\"},
		{screens()[1], "\"q", "P0$r\x1b\\"},
		{screens()[1], " p", "P0$r\x1b\\"},
		{screens()[1], "M", "P0$r\x1b\\"},
		{screens()[1], "t", "P0$r\x1b\\"},
		{screens()[1], "mm", "P0$r\x1b\\"},
		{screens()[1], "rs", "P0$r\x1b\\"},
		{screens()[1], "m\x1b\\", "P0$r\x1b\\"},
	} {
		checkBytes(t, Setting(r.s, r.ask), r.want)
		checkSetting(t, r.s, r.ask)
	}
}

// edits are each text with one byte more in each place, one less, and one changed.
func edits(ask string) []string {
	var l []string
	for at := range len(ask) + 1 {
		for c := range 256 {
			l = append(l, ask[:at]+string([]byte{byte(c)})+ask[at:])
			if at < len(ask) {
				l = append(l, ask[:at]+string([]byte{byte(c)})+ask[at+1:])
			}
		}
		if at < len(ask) {
			l = append(l, ask[:at]+ask[at+1:])
		}
	}
	return l
}

// P19.3, P19.4: of the five settings, with one byte more, less and changed, all but the five are refused alike.
func TestSettingEdits(t *testing.T) {
	refused := 0
	for _, ask := range asks() {
		for _, edit := range edits(ask) {
			for _, s := range screens() {
				checkSetting(t, s, edit)
			}
			if !slices.Contains(asks(), edit) {
				refused++
				check(t, strconv.Quote(edit), Setting(screens()[1], edit), refusal)
			}
		}
	}
	if refused < 4000 {
		t.Errorf("%d are refused", refused)
	}
}

// P19.3, P19.4: all texts of no byte, of one and of two: five of them are known, all others are refused alike.
func TestShortSettings(t *testing.T) {
	s, known := screens()[1], 0
	asked := func(ask string) {
		got := Setting(s, ask)
		if got.Data != "" {
			known++
		}
		check(t, strconv.Quote(ask), got, wantSetting(s, ask))
	}
	asked("")
	for a := range 256 {
		asked(string([]byte{byte(a)}))
		for b := range 256 {
			asked(string([]byte{byte(a), byte(b)}))
		}
	}
	if known != 5 {
		t.Errorf("%d settings are known", known)
	}
}

// P19.3, P19.4: long texts, control characters, sequences and bytes that are no code points.
func TestStrangeSettings(t *testing.T) {
	for _, ask := range append(asks(), "\x00", "\x1b", "\x1b[c", "\x07", "\x18", "\x7f", "\x80", "\xff", "\xc3", "\xc3\xa9", "é", "\U0010ffff", "0;1m", "1;24r", "62;1\"p", "$r", "1$r", ";", ":", "  q", " q ", "\"p\"p") {
		for _, text := range []string{ask, ask + "\xff", "\xff" + ask, ask + "\x00", "\x00" + ask, ask + "é", ask + ask, ask + " ", " " + ask, strings.Repeat(ask, 4096), strings.Repeat(ask, 4097), strings.Repeat("x", 100000) + ask, ask + strings.Repeat("\xff", 100000)} {
			for _, s := range screens() {
				checkSetting(t, s, text)
			}
		}
	}
}

// P19.3: all facts, each told of the right one; nothing else of a screen is told.
func TestSettingFacts(t *testing.T) {
	for i, n := range ofAllKinds() {
		for _, s := range screens() {
			for _, other := range []int{0, 7, n, ofAllKinds()[len(ofAllKinds())-1-i]} {
				for _, change := range []func(*api.Screen){
					func(s *api.Screen) { s.Top, s.Bottom = n, other },
					func(s *api.Screen) { s.Top, s.Bottom = other, n },
					func(s *api.Screen) { s.Left, s.Right = n, other },
					func(s *api.Screen) { s.Left, s.Right = other, n },
					func(s *api.Screen) { s.Shape = n },
					func(s *api.Screen) { s.Rows, s.Cols, s.Row, s.Col = n, other, n, other },
				} {
					one := s
					change(&one)
					for _, ask := range asks() {
						checkSetting(t, one, ask)
					}
				}
			}
		}
	}
}

// styles are of all kinds: sets of marks, and numbers of Under and of colours that may be and that may not.
func styles() []api.Style {
	var l []api.Style
	numbers := append(ofAllKinds(), -1, 0, 7, 8, 15, 16, 255, 256, 16777215, 16777471, 16777472)
	for i, n := range numbers {
		has := func(bit int) bool { return i>>bit&1 == 1 }
		s := api.Style{Bold: has(0), Faint: has(1), Italic: has(2), Blink: has(3), Inverse: has(4), Hidden: has(5), Strike: i%3 == 0, Under: i % 6}
		for _, back := range numbers {
			s.Fore, s.Back = n, back
			l = append(l, s)
		}
		s.Under, s.Fore, s.Back = n, -1, 3
		l = append(l, s)
	}
	return l
}

// P19.3: a style that is told is made again by style.Apply, whatever was before; one that may not be is refused.
func TestStyles(t *testing.T) {
	mays := 0
	for _, s := range append(styles(), longest()) {
		got := Setting(api.Screen{Top: 1, Bottom: 2, Style: s}, "m")
		check(t, "m", got, wantSetting(api.Screen{Style: s}, "m"))
		if !style.May(s) {
			check(t, "m", got, refusal)
			continue
		}
		mays++
		csi, n, err := wire.Take([]byte("\x1b[" + got.Data))
		if err != api.OK || n != len(got.Data)+2 || csi.Final != 'm' || csi.Private != 0 || csi.Inter != "" {
			t.Fatalf("%q: %+v, %d, %d", got.Data, csi, n, err)
		}
		for _, from := range []api.Style{{}, longest(), {Fore: -1, Back: -1}, {Under: 9, Fore: -5, Back: math.MaxInt}} {
			if made := style.Apply(from, csi.Params); made != s {
				t.Fatalf("%q makes %+v, not %+v", got.Data, made, s)
			}
		}
	}
	if mays < 500 {
		t.Errorf("%d styles may be", mays)
	}
}

// P19.4: whatever is asked, the reply's bytes are, but for figures, one of few texts.
func TestRepliesAreOfFewTexts(t *testing.T) {
	texts := map[string]bool{}
	reply := func(s api.Seq) {
		b, err := wire.Put(s)
		if err != api.OK {
			t.Fatalf("%+v may not be: %d", s, err)
		}
		texts[strings.Map(func(r rune) rune {
			if '0' <= r && r <= '9' {
				return -1
			}
			return r
		}, string(b))] = true
	}
	for _, s := range screens() {
		s.Style = api.Style{Fore: -1, Back: -1}
		for _, ask := range asks() {
			for _, edit := range append(edits(ask), ask, strings.Repeat(ask, 9999)) {
				reply(Setting(s, edit))
			}
		}
		reply(Place(s, false))
		reply(Place(s, true))
	}
	for _, m := range someModes() {
		for _, n := range ofAllKinds() {
			reply(Mode(m, false, n))
			reply(Mode(m, true, n))
			reply(Flags(n))
		}
	}
	want := []string{
		"\x1bP$r\x1b\\", "\x1bP$rm\x1b\\", "\x1bP$r;r\x1b\\", "\x1bP$r;s\x1b\\", "\x1bP$r q\x1b\\", "\x1bP$r;\"p\x1b\\",
		"\x1b[;R", "\x1b[?;;R", "\x1b[;$y", "\x1b[?;$y", "\x1b[?u",
	}
	for _, text := range want {
		if !texts[text] {
			t.Errorf("%q is never told", text)
		}
	}
	if len(texts) != len(want) {
		t.Errorf("%d texts, not %d: %q", len(texts), len(want), slices.Collect(maps.Keys(texts)))
	}
}

// The chapter's example.
func TestExample(t *testing.T) {
	checkBytes(t, Place(api.Screen{Row: 3, Col: 4}, false), "[3;4R")
}

// replies are calls of all kinds.
func replies() []func() api.Seq {
	l := []func() api.Seq{Fine, Version}
	for _, which := range []byte{0, '>', '=', 'x'} {
		l = append(l, func() api.Seq { return Attributes(which) })
	}
	for _, s := range screens() {
		for _, ask := range append(asks(), "", "x") {
			l = append(l, func() api.Seq { return Setting(s, ask) })
		}
		l = append(l, func() api.Seq { return Place(s, false) }, func() api.Seq { return Place(s, true) })
	}
	for _, m := range someModes() {
		for _, n := range []int{-1, 2, 4, 25, 1003, 1006, 70000} {
			l = append(l, func() api.Seq { return Mode(m, false, n) }, func() api.Seq { return Mode(m, true, n) })
		}
	}
	for _, n := range ofAllKinds() {
		l = append(l, func() api.Seq { return Flags(n) })
	}
	return l
}

// copied is a sequence with room of its own.
func copied(s api.Seq) api.Seq {
	l := make([][]int, len(s.Params))
	for i, p := range s.Params {
		l[i] = append([]int(nil), p...)
	}
	s.Params = l
	return s
}

// R3, R4: what is told is the caller's own, no two lists of it share any, and the same is told twice, whatever was asked meanwhile.
func TestWhatIsToldIsTheCallers(t *testing.T) {
	var firsts []api.Seq
	for _, reply := range replies() {
		got := reply()
		want := copied(got)
		firsts = append(firsts, want)
		for i, p := range got.Params {
			for j := range p[:cap(p)] {
				p[:cap(p)][j] = 99
			}
			got.Params[i] = append(p, 98)
			for k := i + 1; k < len(got.Params); k++ {
				if !slices.Equal(got.Params[k], want.Params[k]) {
					t.Fatalf("%v shares a part with %v", got.Params[k], p)
				}
			}
		}
		clear(got.Params[:cap(got.Params)])
		if again := reply(); !wire.Same(again, want) {
			t.Fatalf("%+v is told as %+v the second time", want, again)
		}
	}
	for i, reply := range slices.Backward(replies()) {
		if again := reply(); !wire.Same(again, firsts[i]) {
			t.Fatalf("%+v is told as %+v behind others", firsts[i], again)
		}
	}
}

// R3: what is handed in stays as it is.
func TestWhatIsHandedInStays(t *testing.T) {
	for _, s := range screens() {
		was := s
		for _, ask := range append(asks(), "", "x") {
			Setting(s, ask)
		}
		Place(s, false)
		Place(s, true)
		if s != was {
			t.Errorf("%+v became %+v", was, s)
		}
	}
	for _, m := range someModes() {
		was := m
		for _, n := range []int{1, 2, 9, 1000, 1006, 2004} {
			Mode(m, true, n)
			Mode(m, false, n)
		}
		if m != was {
			t.Errorf("%+v became %+v", was, m)
		}
	}
}

// P1: every call ends, and none panics, at all numbers; and each is as the chapter says.
func TestNoCallPanics(t *testing.T) {
	var l []int
	for bit := range 64 {
		for add := -2; add <= 2; add++ {
			l = append(l, 1<<bit+add, -(1<<bit + add))
		}
	}
	for i, n := range l {
		other := l[len(l)-1-i]
		s := api.Screen{Rows: n, Cols: other, Row: n, Col: other, Top: other, Bottom: n, Left: n, Right: other, Shape: n, Style: api.Style{Under: n, Fore: other, Back: n}}
		checkPlace(t, s)
		for _, ask := range append(asks(), "", "x") {
			checkSetting(t, s, ask)
		}
		s.Style.Under, s.Style.Back = 2, other
		checkSetting(t, s, "m")
		for _, m := range []api.Modes{{Mouse: n, Coding: other, Other: n}, {Mouse: other, Coding: n}} {
			checkMode(t, m, true, n)
			checkMode(t, m, false, n)
			checkMode(t, m, true, other)
		}
		check(t, "flags", Flags(n), numbers('?', 'u', "", max(n, 0)%32))
	}
}
