package board

import (
	"math"
	"strings"
	"testing"

	"clavier/api"
	"clavier/kitty"
	"clavier/legacy"
	"clavier/other"
)

// The calls are as the chapter has them.
var (
	_ func(api.Modes, int, api.Key) []byte = Key
	_ func(int) bool                       = Clears
)

// without are the sets of flags that have neither Clear nor All, of all 32.
func without() []int {
	return []int{0, 2, 4, 6, 16, 18, 20, 22}
}

// clears is whether each of the 32 sets of flags clears, by its number.
func clears() [32]bool {
	var l [32]bool
	for flags := range l {
		l[flags] = true
	}
	for _, flags := range without() {
		l[flags] = false
	}
	return l
}

// isClear tells whether a number's flags clear, by the chapter's words.
func isClear(flags int) bool {
	return flags > 0 && clears()[flags%32]
}

// want is what an event sends, by the chapter's words.
func want(m api.Modes, flags int, k api.Key) string {
	if m.Lock {
		return ""
	}
	if isClear(flags) {
		return string(kitty.Key(flags%32, k))
	}
	if b, ok := other.Key(m, k); ok {
		return string(b)
	}
	return string(legacy.Key(m, k))
}

// checkKey ends the test at the first answer that isn't as it ought to be.
func checkKey(t *testing.T, m api.Modes, flags int, k api.Key, want string) {
	t.Helper()
	if got := string(Key(m, flags, k)); got != want {
		t.Fatalf("Key(%+v, %d, %+v) = %q, not %q", m, flags, k, got, want)
	}
}

// checkClears ends the test at the first answer that isn't as it ought to be.
func checkClears(t *testing.T, flags int, want bool) {
	t.Helper()
	if got := Clears(flags); got != want {
		t.Fatalf("Clears(%d) = %v", flags, got)
	}
}

// wraps are numbers that would be n, if only their last bits were told.
func wraps(n int) []int {
	l := []int{n + math.MinInt}
	for _, bits := range []int{8, 16, 21, 31, 32, 33, 62} {
		l = append(l, n+1<<bits, n-1<<bits)
	}
	return l
}

// numbers are flags of all kinds: each set, numbers above these that leave each set by 32, and numbers below 0.
func numbers() []int {
	l := []int{math.MinInt, math.MinInt + 1, math.MinInt + 9, math.MinInt32, -65536, -32, math.MaxInt - 31, math.MaxInt - 8, math.MaxInt - 1, math.MaxInt}
	for flags := -33; flags < 96; flags++ {
		l = append(l, flags)
	}
	for _, flags := range []int{0, 1, 8, 9, 2, 16, 31} {
		l = append(l, wraps(flags)...)
	}
	return l
}

// fewNumbers are numbers of flags that clear by Clear, by All and by both, and that don't, from 0 to 31, above, and below.
func fewNumbers() []int {
	return []int{0, 2, 20, 22, 1, 3, 8, 10, 9, 31, 32, 38, 33, 40, 41, 1 << 32, 1<<32 + 8, math.MaxInt, -1, -8, -23, -32, math.MinInt}
}

// choices are modes of Mouse, Coding and Other, each alone, of numbers that may be, and of some beside these.
func choices() []api.Modes {
	l := []api.Modes{{Other: -1}, {Other: 1}, {Other: 2}, {Other: 3}, {Other: 2 + 1<<32}, {Other: math.MinInt}, {Other: math.MaxInt}}
	for _, n := range []int{9, 1000, 1002, 1003, 1, -9} {
		l = append(l, api.Modes{Mouse: n})
	}
	for _, n := range []int{1005, 1006, 1015, 2, -1006} {
		l = append(l, api.Modes{Coding: n})
	}
	return l
}

// states are all sets of the modes that are there or not, but for Lock, with each Other, and the choices alone.
func states() []api.Modes {
	l := choices()
	for bits := range 64 {
		m := api.Modes{
			Cursor: bits&1 != 0, Keypad: bits&2 != 0, Back: bits&4 != 0,
			Focus: bits&8 != 0, Paste: bits&16 != 0, Line: bits&32 != 0,
		}
		for m.Other = range 3 {
			l = append(l, m)
		}
	}
	return append(l, api.Modes{Cursor: true, Keypad: true, Back: true, Focus: true, Paste: true, Line: true, Mouse: 1003, Coding: 1006, Other: 2})
}

// fewStates are the modes that keys ask, each alone, none and all, with each Other and one beside.
func fewStates() []api.Modes {
	var l []api.Modes
	for _, m := range []api.Modes{{}, {Cursor: true}, {Keypad: true}, {Back: true}, {Line: true}, {Cursor: true, Keypad: true, Back: true, Line: true}} {
		for m.Other = range 4 {
			l = append(l, m)
		}
	}
	return l
}

// each is events of keys of every kind that may be, some of which other.Key sends.
func each() []api.Key {
	return []api.Key{
		{Code: 'a', Type: 1}, {Code: 'c', Mods: api.Ctrl, Type: 1}, {Code: 'a', Mods: 5, Type: 2, Shifted: 'A', Base: 'q', Text: "A"},
		{Code: '1', Mods: api.Ctrl, Type: 1}, {Code: 'x', Mods: api.Alt, Type: 2}, {Code: 'q', Mods: 65, Type: 1, Text: "xyz"},
		{Code: 233, Mods: 1, Type: 1, Shifted: 201}, {Code: 128512, Mods: 255, Type: 2, Base: 'a'}, {Code: 'a', Type: 3},
		{Code: 9, Type: 1}, {Code: 9, Mods: api.Ctrl, Type: 1}, {Code: 9, Mods: 1, Type: 2}, {Code: 13, Type: 1}, {Code: 13, Mods: 7, Type: 2},
		{Code: 27, Type: 1}, {Code: 27, Mods: 4, Type: 1, Base: 'b'}, {Code: 27, Type: 3}, {Code: 127, Type: 1}, {Code: 127, Mods: 4, Type: 1},
		{Code: 57352, Type: 1}, {Code: 57352, Mods: 2, Type: 3}, {Code: 57366, Type: 2}, {Code: 57348, Type: 1}, {Code: 57375, Mods: 8, Type: 1},
		{Code: 57399, Type: 1, Text: "0"}, {Code: 57414, Type: 1}, {Code: 57414, Mods: 6, Type: 1}, {Code: 57417, Type: 1}, {Code: 57421, Mods: 1, Type: 1},
		{Code: 57427, Type: 2}, {Code: 57358, Mods: 64, Type: 1}, {Code: 57440, Type: 3}, {Code: 57441, Mods: 1, Type: 1}, {Code: 57454, Type: 3},
	}
}

// codes are those of all keys that aren't text, and of some texts, of one to four bytes.
func codes() []int {
	l := []int{9, 13, 27, 127}
	for code := 57348; code <= 57454; code++ {
		l = append(l, code)
	}
	return append(l, ' ', '1', '2', '?', 'I', 'a', 'i', 'z', '~', 160, 233, 8364, 63744, 128512, 1114111)
}

// P14.1: whether each of the 32 sets of flags clears.
func TestClearsOfEachSet(t *testing.T) {
	for flags, want := range clears() {
		checkClears(t, flags, want)
		// By its flags: 1 is Clear, 8 is All.
		checkClears(t, flags, flags%2 == 1 || flags/8%2 == 1)
	}
}

// P14.1: of a number below 0 there are no flags.
func TestClearsOfNumbersBelowNought(t *testing.T) {
	for flags := -4200; flags < 0; flags++ {
		checkClears(t, flags, false)
	}
	for n := range 64 {
		checkClears(t, math.MinInt+n, false)
		checkClears(t, math.MinInt32+n, false)
		checkClears(t, n-1<<32, false)
	}
}

// P14.1: of a number above 31 the flags are what is left of it by 32.
func TestClearsOfGreatNumbers(t *testing.T) {
	for _, r := range []struct {
		flags int
		want  bool
	}{
		{32, false}, {33, true}, {40, true}, {41, true}, {34, false}, {36, false}, {48, false}, {54, false}, {55, true}, {62, true}, {63, true},
		{64, false}, {65, true}, {72, true}, {73, true}, {96, false}, {128, false}, {256, false}, {1024, false}, {1025, true}, {1032, true},
		{1 << 32, false}, {1<<32 + 1, true}, {1<<32 + 8, true}, {1<<32 + 9, true}, {1 << 62, false}, {1<<62 + 22, false}, {1<<62 + 8, true},
		{math.MaxInt, true}, {math.MaxInt - 1, true}, {math.MaxInt - 9, false}, {math.MaxInt - 31, false},
	} {
		checkClears(t, r.flags, r.want)
	}
	for flags := 32; flags < 4200; flags++ {
		checkClears(t, flags, clears()[flags%32])
	}
	for _, flags := range numbers() {
		checkClears(t, flags, isClear(flags))
	}
}

// P14.1: events, and what they send by modes and flags, written out.
func TestKeyRows(t *testing.T) {
	const ctrl, alt, shift = api.Ctrl, api.Alt, api.Shift
	up := api.Key{Code: 57352, Type: api.Press}
	for _, r := range []struct {
		m     api.Modes
		flags int
		k     api.Key
		want  string
	}{
		{api.Modes{}, 0, api.Key{Code: 'a', Type: 1}, "a"},
		{api.Modes{}, 1, api.Key{Code: 'a', Type: 1}, "a"},
		{api.Modes{}, 8, api.Key{Code: 'a', Type: 1}, "\x1b[97u"},
		{api.Modes{}, 40, api.Key{Code: 'a', Type: 1}, "\x1b[97u"},
		{api.Modes{}, -24, api.Key{Code: 'a', Type: 1}, "a"},
		{api.Modes{}, 22, api.Key{Code: 'c', Mods: ctrl, Type: 1}, "\x03"},
		{api.Modes{}, 32, api.Key{Code: 'c', Mods: ctrl, Type: 1}, "\x03"},
		{api.Modes{}, 33, api.Key{Code: 'c', Mods: ctrl, Type: 1}, "\x1b[99;5u"},
		{api.Modes{}, -1, api.Key{Code: 'c', Mods: ctrl, Type: 1}, "\x03"},
		{api.Modes{}, math.MinInt + 1, api.Key{Code: 'c', Mods: ctrl, Type: 1}, "\x03"},
		{api.Modes{}, math.MaxInt, api.Key{Code: 'c', Mods: ctrl, Type: 1}, "\x1b[99;5u"},
		{api.Modes{Other: 1}, 0, api.Key{Code: 'c', Mods: ctrl, Type: 1}, "\x03"},
		{api.Modes{Other: 1}, 0, api.Key{Code: '1', Mods: ctrl, Type: 1}, "\x1b[27;5;49~"},
		{api.Modes{Other: 2}, 0, api.Key{Code: '1', Mods: ctrl, Type: 1}, "\x1b[27;5;49~"},
		{api.Modes{Other: 3}, 0, api.Key{Code: '1', Mods: ctrl, Type: 1}, "1"},
		{api.Modes{Other: -1}, 0, api.Key{Code: '1', Mods: ctrl, Type: 1}, "1"},
		{api.Modes{Other: 2}, 6, api.Key{Code: 'c', Mods: ctrl, Type: 2}, "\x1b[27;5;99~"},
		{api.Modes{Other: 2}, 1, api.Key{Code: 'c', Mods: ctrl, Type: 1}, "\x1b[99;5u"},
		{api.Modes{Other: 2}, 8, api.Key{Code: 'c', Mods: ctrl, Type: 1}, "\x1b[99;5u"},
		{api.Modes{Other: 2}, 0, api.Key{Code: 'a', Mods: shift, Type: 1}, "A"},
		{api.Modes{Other: 2}, 0, api.Key{Code: 'a', Mods: alt, Type: 1}, "\x1b[27;3;97~"},
		{api.Modes{Other: 1}, 0, api.Key{Code: 'a', Mods: alt, Type: 1}, "\x1ba"},
		{api.Modes{Other: 2}, 0, api.Key{Code: 'a', Type: 1, Text: "\u00e9"}, "\u00e9"},
		{api.Modes{Other: 2}, 0, api.Key{Code: 57352, Mods: ctrl, Type: 1}, "\x1b[1;5A"},
		{api.Modes{Other: 2}, 0, api.Key{Code: 13, Mods: shift, Type: 1}, "\x1b[27;2;13~"},
		{api.Modes{Other: 2, Line: true}, 0, api.Key{Code: 13, Type: 1}, "\r\n"},
		{api.Modes{Line: true}, 1, api.Key{Code: 13, Type: 1}, "\r"},
		{api.Modes{Back: true}, 4, api.Key{Code: 127, Type: 1}, "\b"},
		{api.Modes{Back: true}, 5, api.Key{Code: 127, Type: 1}, "\x7f"},
		{api.Modes{Cursor: true}, 2, up, "\x1bOA"},
		{api.Modes{Cursor: true}, 3, up, "\x1b[A"},
		{api.Modes{Keypad: true}, 16, api.Key{Code: 57399, Type: 1}, "\x1bOp"},
		{api.Modes{}, 16, api.Key{Code: 57399, Type: 1}, "0"},
		{api.Modes{Keypad: true}, 17, api.Key{Code: 57399, Type: 1}, "\x1b[57399u"},
		{api.Modes{}, 0, api.Key{Code: 57366, Type: 1}, "\x1bOR"},
		{api.Modes{}, 1, api.Key{Code: 57366, Type: 1}, "\x1b[13~"},
		{api.Modes{}, 0, api.Key{Code: 57358, Type: 1}, ""},
		{api.Modes{}, 1, api.Key{Code: 57358, Type: 1}, "\x1b[57358u"},
		{api.Modes{}, 7, api.Key{Code: 57441, Mods: shift, Type: 1}, ""},
		{api.Modes{}, 8, api.Key{Code: 57441, Mods: shift, Type: 1}, "\x1b[57441;2u"},
		{api.Modes{}, 2, api.Key{Code: 57352, Type: 3}, ""},
		{api.Modes{}, 3, api.Key{Code: 57352, Type: 3}, "\x1b[1;1:3A"},
		{api.Modes{}, 31, api.Key{Code: 'a', Mods: shift, Type: 1, Shifted: 'A', Base: 'q', Text: "A"}, "\x1b[97:65:113;2;65u"},
		{api.Modes{}, 24, api.Key{Code: 'a', Mods: shift, Type: 1, Shifted: 'A', Base: 'q', Text: "A"}, "\x1b[97;2;65u"},
		{api.Modes{}, 20, api.Key{Code: 'a', Mods: shift, Type: 1, Shifted: '!', Base: 'q'}, "!"},
	} {
		checkKey(t, r.m, r.flags, r.k, r.want)
		r.m.Lock = true
		checkKey(t, r.m, r.flags, r.k, "")
	}
}

// The chapter's examples.
func TestExamples(t *testing.T) {
	k := api.Key{Code: 'c', Mods: api.Ctrl, Type: api.Press}
	checkKey(t, api.Modes{}, 0, k, "\x03")
	checkKey(t, api.Modes{Other: 2}, 0, k, "\x1b[27;5;99~")
	checkKey(t, api.Modes{Other: 2}, 1, k, "\x1b[99;5u")
	checkKey(t, api.Modes{}, 1, k, "\x1b[99;5u")
}

// P14.1: events of every kind by all modes, each set of flags, and numbers below and above these.
func TestEachState(t *testing.T) {
	for _, k := range each() {
		for _, m := range states() {
			for _, flags := range fewNumbers() {
				checkKey(t, m, flags, k, want(m, flags, k))
			}
		}
		for _, m := range fewStates() {
			for _, flags := range numbers() {
				checkKey(t, m, flags, k, want(m, flags, k))
			}
		}
	}
}

// P14.1: with Lock nothing is sent, whatever else is set, by any flags.
func TestLock(t *testing.T) {
	for _, k := range each() {
		for _, m := range append(states(), api.Modes{}) {
			m.Lock = true
			for _, flags := range fewNumbers() {
				checkKey(t, m, flags, k, "")
			}
		}
		for _, flags := range numbers() {
			checkKey(t, api.Modes{Lock: true}, flags, k, "")
		}
	}
}

// P14.1: keys of every kind, with each type, each modifier alone, none, some and all, by each set of flags.
func TestEachKey(t *testing.T) {
	for _, code := range codes() {
		for _, k := range []api.Key{{Code: code}, {Code: code, Shifted: '%', Base: 'q', Text: "x\u20ac"}} {
			for _, k.Mods = range []int{0, 1, 2, 4, 8, 16, 32, 64, 128, 3, 5, 6, 7, 192, 255} {
				for k.Type = api.Press; k.Type <= api.Release; k.Type++ {
					for flags := range 32 {
						for _, m := range []api.Modes{{}, {Other: 1, Cursor: true, Keypad: true}, {Other: 2, Back: true, Line: true}} {
							checkKey(t, m, flags, k, want(m, flags, k))
						}
					}
				}
			}
		}
	}
}

// P14.1: a key that other.Key sends, and one that it doesn't, by flags that clear and by flags that don't.
func TestOtherKeys(t *testing.T) {
	m := api.Modes{Other: 1, Cursor: true}
	told, untold := api.Key{Code: 9, Mods: api.Ctrl, Type: 1}, api.Key{Code: 'i', Mods: api.Ctrl, Type: 1}
	for _, flags := range numbers() {
		if isClear(flags) {
			checkKey(t, m, flags, told, "\x1b[9;5u")
			checkKey(t, m, flags, untold, "\x1b[105;5u")
			continue
		}
		checkKey(t, m, flags, told, "\x1b[27;5;9~")
		checkKey(t, m, flags, untold, "\t")
	}
}

// P14.1: events that may not be, for each reason, send nothing.
func TestEventsThatMayNotBe(t *testing.T) {
	for _, wrong := range []func(k *api.Key){
		func(k *api.Key) { k.Code = 0 },
		func(k *api.Key) { k.Code = 31 },
		func(k *api.Key) { k.Code = 128 },
		func(k *api.Key) { k.Code = 57344 },
		func(k *api.Key) { k.Code = 57455 },
		func(k *api.Key) { k.Code = 1114112 },
		func(k *api.Key) { k.Code = -k.Code },
		func(k *api.Key) { k.Code += 1 << 32 },
		func(k *api.Key) { k.Mods = -1 },
		func(k *api.Key) { k.Mods -= 256 },
		func(k *api.Key) { k.Mods += 256 },
		func(k *api.Key) { k.Mods = math.MinInt },
		func(k *api.Key) { k.Type = 0 },
		func(k *api.Key) { k.Type = api.Motion },
		func(k *api.Key) { k.Type = -k.Type },
		func(k *api.Key) { k.Type += 1 << 32 },
		func(k *api.Key) { k.Shifted = 13 },
		func(k *api.Key) { k.Shifted = -'A' },
		func(k *api.Key) { k.Base = 57399 },
		func(k *api.Key) { k.Base = math.MaxInt },
		func(k *api.Key) { k.Text = "\x1b" },
		func(k *api.Key) { k.Text = "\u009b" },
		func(k *api.Key) { k.Text = "\xff" },
		func(k *api.Key) { k.Text = "123456789" },
		func(k *api.Key) { k.Text = strings.Repeat("a", 1<<16) },
	} {
		for _, k := range each() {
			wrong(&k)
			for _, m := range append(fewStates(), api.Modes{Lock: true}) {
				for _, flags := range fewNumbers() {
					checkKey(t, m, flags, k, "")
				}
			}
		}
	}
}

// P14.2: where flags clear, no mode but Lock changes anything.
func TestModesChangeNothingWhereFlagsClear(t *testing.T) {
	for _, k := range each() {
		for _, flags := range numbers() {
			if !isClear(flags) {
				continue
			}
			sent := string(Key(api.Modes{}, flags, k))
			for _, m := range fewStates() {
				checkKey(t, m, flags, k, sent)
			}
		}
		for _, m := range states() {
			for _, flags := range []int{1, 8, 9, 11, 31, 41} {
				checkKey(t, m, flags, k, string(Key(api.Modes{}, flags, k)))
			}
		}
	}
}

// P14.2: where flags don't clear, they change nothing.
func TestFlagsChangeNothingWhereTheyDoNotClear(t *testing.T) {
	for _, k := range each() {
		for _, m := range states() {
			sent := string(Key(m, 0, k))
			for _, flags := range append(without(), -1, -9, 32, 54, 1<<32, math.MaxInt-9, math.MinInt) {
				checkKey(t, m, flags, k, sent)
			}
		}
		for _, m := range fewStates() {
			sent := string(Key(m, 0, k))
			for _, flags := range numbers() {
				if !isClear(flags) {
					checkKey(t, m, flags, k, sent)
				}
			}
		}
	}
}

// tellsEvents is whether flags clear, and have Events.
func tellsEvents(flags int) bool {
	return isClear(flags) && flags/2%2 == 1
}

// P14.1: where flags tell no events, a repeat is as a press, and a release is nothing.
func TestTypesWithoutEvents(t *testing.T) {
	for _, flags := range numbers() {
		if tellsEvents(flags) {
			continue
		}
		for _, k := range each() {
			for _, m := range fewStates() {
				k.Type = api.Press
				sent := string(Key(m, flags, k))
				k.Type = api.Repeat
				checkKey(t, m, flags, k, sent)
				k.Type = api.Release
				checkKey(t, m, flags, k, "")
			}
		}
	}
}

// P14.1: where flags tell events, a repeat and a release of a key that doesn't type are told, each otherwise than a press.
func TestTypesWithEvents(t *testing.T) {
	for _, flags := range numbers() {
		if !tellsEvents(flags) {
			continue
		}
		for kind, want := range map[int]string{api.Press: "\x1b[1;3A", api.Repeat: "\x1b[1;3:2A", api.Release: "\x1b[1;3:3A"} {
			checkKey(t, api.Modes{Other: 2, Cursor: true}, flags, api.Key{Code: 57352, Mods: api.Alt, Type: kind}, want)
		}
	}
}

// R3: what is told is the caller's own, and the same twice.
func TestAnswersAreNotShared(t *testing.T) {
	for _, k := range each() {
		for _, m := range fewStates() {
			for flags := range 32 {
				one, two := Key(m, flags, k), Key(m, flags, k)
				for i := range one {
					one[i] = '#'
				}
				one = append(one, "more"...)
				if string(two) != want(m, flags, k) {
					t.Fatalf("%+v, %d, %+v: %q beside %q", m, flags, k, two, one)
				}
				checkKey(t, m, flags, k, want(m, flags, k))
			}
		}
	}
}

// R3: what is handed in stays as it is.
func TestWhatIsHandedInStays(t *testing.T) {
	for _, k := range each() {
		was := k
		was.Text = strings.Clone(k.Text)
		for _, m := range states() {
			before := m
			for _, flags := range fewNumbers() {
				for i, b := 0, Key(m, flags, k); i < len(b); i++ {
					b[i] = '#'
				}
			}
			if k != was || m != before {
				t.Fatalf("%+v, %+v became %+v, %+v", before, was, m, k)
			}
		}
	}
}

// R4: nothing is kept from call to call: in any order of calls each is told what it is told alone.
func TestNothingIsKept(t *testing.T) {
	events, modes, flags := each(), states(), numbers()
	for i := range 50000 {
		k, m, n := events[i*7%len(events)], modes[i*11%len(modes)], flags[i*5%len(flags)]
		m.Lock = i%9 == 0
		if i%4 == 0 {
			checkClears(t, n, isClear(n))
		}
		checkKey(t, m, n, k, want(m, n, k))
	}
}

// P1: every call ends, and none panics, at numbers and texts of all kinds.
func TestNoCallPanics(t *testing.T) {
	var l []int
	for bit := range 64 {
		for add := -2; add <= 2; add++ {
			l = append(l, 1<<bit+add, -(1<<bit + add))
		}
	}
	texts := []string{"", "a", "\x00", "\xff", "\xf4\x8f\xbf", strings.Repeat("a", 1<<20)}
	for i, n := range l {
		back := l[len(l)-1-i]
		m := api.Modes{Cursor: n&1 != 0, Keypad: n&2 != 0, Back: n&4 != 0, Line: n&8 != 0, Mouse: n, Coding: back, Other: n}
		for _, text := range texts {
			for _, k := range []api.Key{
				{Code: n, Mods: back, Type: 1, Shifted: n, Base: back, Text: text},
				{Code: 97, Mods: n, Type: back, Shifted: back, Base: n, Text: text},
				{Code: 9, Mods: n, Type: 1, Shifted: back, Text: text},
				{Code: back, Mods: 255, Type: n, Text: text},
				{Code: n, Mods: 7, Type: 2, Text: text},
			} {
				for _, flags := range []int{0, 1, 31, n, back} {
					Key(m, flags, k)
					Key(api.Modes{Other: 2}, flags, k)
				}
			}
		}
		Clears(n)
	}
}
