package keys

import (
	"math"
	"slices"
	"testing"
	"unicode/utf8"
)

// The calls are as the chapter has them, and so is an entry.
var (
	_ func(int) Entry             = Look
	_ func(byte, int) (int, bool) = Find
	_ struct {
		Kind  int
		Final byte
		Num   int
		Char  int
		Keys  bool
	} = Entry{}
)

// key is a code, and its entry.
type key struct {
	code  int
	entry Entry
}

// alike are codes that all have that entry.
func alike(e Entry, codes ...int) []key {
	var l []key
	for _, code := range codes {
		l = append(l, key{code, e})
	}
	return l
}

func letter(code int, final byte) key    { return key{code, Entry{Kind: 3, Final: final}} }
func number(code, num int) key           { return key{code, Entry{Kind: 4, Num: num}} }
func padLetter(code int, final byte) key { return key{code, Entry{Kind: 3, Final: final, Keys: true}} }
func padNumber(code, num int) key        { return key{code, Entry{Kind: 4, Num: num, Keys: true}} }
func pad(code, char int, final byte) key {
	return key{code, Entry{Kind: 5, Final: final, Char: char, Keys: true}}
}

// table is the table of codes, but for its last two rows: its rows, in turn, each code of them written out with its entry.
func table() [][]key {
	return [][]key{
		alike(Entry{Kind: 2}, 9, 13, 27, 127),
		{letter(57350, 'D'), letter(57351, 'C'), letter(57352, 'A'), letter(57353, 'B')},
		{letter(57356, 'H'), letter(57357, 'F')},
		{letter(57364, 'P'), letter(57365, 'Q'), letter(57366, 'R'), letter(57367, 'S')},
		{number(57348, 2), number(57349, 3), number(57354, 5), number(57355, 6)},
		{number(57368, 15), number(57369, 17), number(57370, 18), number(57371, 19), number(57372, 20), number(57373, 21), number(57374, 23), number(57375, 24)},
		{number(57363, 29)},
		{
			pad(57399, 48, 'p'), pad(57400, 49, 'q'), pad(57401, 50, 'r'), pad(57402, 51, 's'), pad(57403, 52, 't'),
			pad(57404, 53, 'u'), pad(57405, 54, 'v'), pad(57406, 55, 'w'), pad(57407, 56, 'x'), pad(57408, 57, 'y'),
		},
		{
			pad(57409, 46, 'n'), pad(57410, 47, 'o'), pad(57411, 42, 'j'), pad(57412, 45, 'm'),
			pad(57413, 43, 'k'), pad(57414, 13, 'M'), pad(57415, 61, 'X'), pad(57416, 44, 'l'),
		},
		{padLetter(57417, 'D'), padLetter(57418, 'C'), padLetter(57419, 'A'), padLetter(57420, 'B')},
		{padLetter(57423, 'H'), padLetter(57424, 'F'), padLetter(57427, 'E')},
		{padNumber(57421, 5), padNumber(57422, 6), padNumber(57425, 2), padNumber(57426, 3)},
		alike(Entry{Kind: 6},
			57358, 57359, 57360, 57361, 57362,
			57376, 57377, 57378, 57379, 57380, 57381, 57382, 57383, 57384, 57385, 57386, 57387,
			57388, 57389, 57390, 57391, 57392, 57393, 57394, 57395, 57396, 57397, 57398,
			57428, 57429, 57430, 57431, 57432, 57433, 57434, 57435, 57436, 57437, 57438, 57439, 57440),
		alike(Entry{Kind: 7}, 57441, 57442, 57443, 57444, 57445, 57446, 57447, 57448, 57449, 57450, 57451, 57452, 57453, 57454),
	}
}

// all are the keys of all rows.
func all() []key {
	return slices.Concat(table()...)
}

// byCode is the table, by codes.
func byCode() map[int]Entry {
	entries := map[int]Entry{}
	for _, k := range all() {
		entries[k.code] = k.entry
	}
	return entries
}

// plainLook is Look of a code that isn't in the table's rows, written out.
func plainLook(code int) Entry {
	switch {
	case code < 32, code > 1114111:
		return Entry{}
	case 127 <= code && code <= 159:
		return Entry{}
	case 57344 <= code && code <= 63743:
		return Entry{}
	case !utf8.ValidRune(rune(code)):
		return Entry{}
	}
	return Entry{Kind: 1}
}

// letters are the codes of the letters of the main board, numbers those of its numbers, written out.
func letters() map[byte]int {
	return map[byte]int{
		'A': 57352, 'B': 57353, 'C': 57351, 'D': 57350, 'F': 57357, 'H': 57356,
		'P': 57364, 'Q': 57365, 'R': 57366, 'S': 57367,
	}
}

func numbers() map[int]int {
	return map[int]int{
		2: 57348, 3: 57349, 5: 57354, 6: 57355,
		15: 57368, 17: 57369, 18: 57370, 19: 57371, 20: 57372, 21: 57373, 23: 57374, 24: 57375, 29: 57363,
	}
}

// wraps are numbers that would be n, if only their last bits were told.
func wraps(n int) []int {
	var l []int
	for _, bits := range []int{8, 16, 21, 31, 32, 33, 62} {
		l = append(l, n+1<<bits, n-1<<bits)
	}
	return append(l, n+math.MinInt)
}

// ends are very small and very great numbers, and those around 0.
func ends() []int {
	return []int{
		math.MinInt, math.MinInt + 1, math.MinInt32 - 1, math.MinInt32, -1114112, -65536, -57352, -97, -13, -9, -2, -1, 0, 1,
		1114111, 1114112, math.MaxInt32, math.MaxInt32 + 1, math.MaxUint32, math.MaxUint32 + 1, math.MaxInt - 1, math.MaxInt,
	}
}

// someNums are numbers that some code has, and ones that none has: each of -2100 to 2100, codes, very great ones, and those that would wrap round.
func someNums() []int {
	l := ends()
	for n := -2100; n <= 2100; n++ {
		l = append(l, n)
	}
	for n, code := range numbers() {
		l = append(l, code, -code)
		l = append(l, wraps(n)...)
	}
	for _, k := range all() {
		l = append(l, k.code, k.entry.Char)
	}
	return l
}

func checkLook(t *testing.T, code int, want Entry) {
	t.Helper()
	if got := Look(code); got != want {
		t.Fatalf("Look(%d) = %+v, not %+v", code, got, want)
	}
}

func checkFind(t *testing.T, final byte, num, code int, ok bool) {
	t.Helper()
	if got, gotOk := Find(final, num); got != code || gotOk != ok {
		t.Fatalf("Find(%q, %d) = %d, %v, not %d, %v", final, num, got, gotOk, code, ok)
	}
}

// The kinds' numbers are the chapter's.
func TestKinds(t *testing.T) {
	got := []int{None, Text, Plain, Letter, Number, Pad, Unit, Mod}
	if !slices.Equal(got, []int{0, 1, 2, 3, 4, 5, 6, 7}) {
		t.Errorf("kinds: %d", got)
	}
}

// The chapter's examples.
func TestExamples(t *testing.T) {
	checkLook(t, 57352, Entry{Kind: Letter, Final: 'A'})
	checkLook(t, 97, Entry{Kind: Text})
	checkLook(t, 57441, Entry{Kind: Mod})
	checkFind(t, 'A', 1, 57352, true)
	checkFind(t, '~', 29, 57363, true)
}

// P9.1: the entry of every code of the table, field by field, those that are zero among them.
func TestLookOfTheTable(t *testing.T) {
	for _, k := range all() {
		got := Look(k.code)
		if got.Kind != k.entry.Kind {
			t.Errorf("Look(%d).Kind = %d, not %d", k.code, got.Kind, k.entry.Kind)
		}
		if got.Final != k.entry.Final {
			t.Errorf("Look(%d).Final = %q, not %q", k.code, got.Final, k.entry.Final)
		}
		if got.Num != k.entry.Num {
			t.Errorf("Look(%d).Num = %d, not %d", k.code, got.Num, k.entry.Num)
		}
		if got.Char != k.entry.Char {
			t.Errorf("Look(%d).Char = %d, not %d", k.code, got.Char, k.entry.Char)
		}
		if got.Keys != k.entry.Keys {
			t.Errorf("Look(%d).Keys = %v, not %v", k.code, got.Keys, k.entry.Keys)
		}
	}
}

// The table that is written out here holds the four plain codes, and each one from 57348 to 57454.
func TestTheTableIsWhole(t *testing.T) {
	entries := byCode()
	for code := 57348; code <= 57454; code++ {
		if _, ok := entries[code]; !ok {
			t.Errorf("%d isn't written out", code)
		}
	}
	if len(entries) != 4+57454-57348+1 {
		t.Errorf("%d codes are written out", len(entries))
	}
}

// P9.1: the codes on both sides of the rows that are in no row themselves.
func TestLookBesideTheRows(t *testing.T) {
	beside := map[int]Entry{
		8: {}, 10: {}, 12: {}, 14: {}, 26: {}, 28: {}, 126: {Kind: 1}, 128: {}, 57347: {}, 57455: {},
	}
	entries := byCode()
	for _, k := range all() {
		for _, code := range []int{k.code - 1, k.code + 1} {
			want, inTable := entries[code]
			if !inTable {
				var written bool
				want, written = beside[code]
				if !written {
					t.Errorf("%d isn't written out", code)
				}
			}
			checkLook(t, code, want)
		}
	}
}

// P9.1: what is text and what is not, on both sides of each bound.
func TestLookAtTheBounds(t *testing.T) {
	none := []int{
		0, 1, 2, 7, 8, 10, 11, 12, 14, 15, 16, 25, 26, 28, 29, 30, 31,
		128, 129, 130, 143, 144, 155, 158, 159,
		55296, 55297, 56319, 56320, 57342, 57343,
		57344, 57345, 57346, 57347, 57455, 57456, 57500, 58000, 60000, 63742, 63743,
		1114112, 1114113, 1114112 + 97, 2097151, 2097152,
	}
	for _, code := range none {
		checkLook(t, code, Entry{})
	}
	text := []int{
		32, 33, 47, 48, 57, 64, 65, 90, 91, 97, 122, 125, 126,
		160, 161, 233, 255, 256, 2047, 2048, 8364, 55294, 55295,
		63744, 63745, 65279, 65533, 65534, 65535, 65536, 65537, 128512, 983040, 1048576, 1114110, 1114111,
	}
	for _, code := range text {
		checkLook(t, code, Entry{Kind: Text})
	}
}

// P9.1: numbers that are no code points are nothing, also those that would be a key if they wrapped round.
func TestLookOfNoPoints(t *testing.T) {
	for _, code := range ends() {
		checkLook(t, code, plainLook(code))
	}
	for _, k := range append(all(), alike(Entry{}, 0, 31, 32, 65, 97, 126, 160, 55295, 63744, 65535, 1114111)...) {
		for _, code := range append(wraps(k.code), -k.code) {
			if code < 0 || code > 1114111 {
				checkLook(t, code, Entry{})
			}
		}
	}
}

// P9.1: each code, and many numbers below and above all codes, against the table and the library.
func TestLookOfEachCode(t *testing.T) {
	entries := byCode()
	for code := -70000; code < 1<<21; code++ {
		want, ok := entries[code]
		if !ok {
			want = plainLook(code)
		}
		checkLook(t, code, want)
	}
}

// P9.1: Find of each final byte but ~, whatever number stands beside it.
func TestFindOfEachFinal(t *testing.T) {
	for final := range 256 {
		if final == '~' {
			continue
		}
		code, ok := letters()[byte(final)]
		for _, num := range someNums() {
			checkFind(t, byte(final), num, code, ok)
		}
	}
}

// P9.1: the letters, written out, and bytes that no letter of the main board has, each with numbers of all kinds.
func TestFindOfLetters(t *testing.T) {
	for _, num := range append(ends(), 2, 5, 15, 29, 57348, 57352) {
		checkFind(t, 'A', num, 57352, true)
		checkFind(t, 'B', num, 57353, true)
		checkFind(t, 'C', num, 57351, true)
		checkFind(t, 'D', num, 57350, true)
		checkFind(t, 'H', num, 57356, true)
		checkFind(t, 'F', num, 57357, true)
		checkFind(t, 'P', num, 57364, true)
		checkFind(t, 'Q', num, 57365, true)
		checkFind(t, 'R', num, 57366, true)
		checkFind(t, 'S', num, 57367, true)
		for _, final := range []byte("EMXlpqrsyjkmnoaubcdfhGITUZu \x00\t\r\x1b}\x7f\x80\xff") {
			checkFind(t, final, num, 0, false)
		}
	}
}

// P9.1: Find of ~ with each number of the table, with numbers beside them, and with ones that none has.
func TestFindOfNumbers(t *testing.T) {
	for _, num := range someNums() {
		code, ok := numbers()[num]
		checkFind(t, '~', num, code, ok)
	}
	for _, num := range []int{math.MinInt, -29, -2, -1, 0, 1, 4, 7, 8, 11, 14, 16, 22, 25, 28, 30, 34, 57348, 57427, math.MaxInt} {
		checkFind(t, '~', num, 0, false)
	}
	checkFind(t, '~', 2, 57348, true)
	checkFind(t, '~', 3, 57349, true)
	checkFind(t, '~', 5, 57354, true)
	checkFind(t, '~', 6, 57355, true)
	checkFind(t, '~', 15, 57368, true)
	checkFind(t, '~', 24, 57375, true)
	checkFind(t, '~', 29, 57363, true)
}

// P9.1: a letter, or a number, of the main board is found by its form; what is found is one of these, and has that form.
func TestLookAndFind(t *testing.T) {
	found := 0
	for code := -10; code <= 1114120; code++ {
		e := Look(code)
		switch {
		case e.Kind == Letter && !e.Keys:
			checkFind(t, e.Final, 0, code, true)
		case e.Kind == Number && !e.Keys:
			checkFind(t, '~', e.Num, code, true)
		default:
			continue
		}
		found++
	}
	if found != len(letters())+len(numbers()) {
		t.Errorf("%d are found", found)
	}
	for final := range 256 {
		for num := -5; num <= 200; num++ {
			code, ok := Find(byte(final), num)
			want := Entry{}
			switch {
			case ok && final == '~':
				want = Entry{Kind: Number, Num: num}
			case ok:
				want = Entry{Kind: Letter, Final: byte(final)}
			}
			checkLook(t, code, want)
		}
	}
}

// P9.1: keys of the pad are never found, though they have the same form, nor are any other keys that are neither letters nor numbers.
func TestNoOtherKeyIsFound(t *testing.T) {
	main := map[int]bool{}
	for _, code := range letters() {
		main[code] = true
	}
	for _, code := range numbers() {
		main[code] = true
	}
	nums := []int{0}
	for _, k := range all() {
		nums = append(nums, k.code, k.entry.Num, k.entry.Char, int(k.entry.Final))
	}
	for final := range 256 {
		for _, num := range nums {
			if code, ok := Find(byte(final), num); ok && !main[code] || !ok && code != 0 {
				t.Fatalf("Find(%q, %d) = %d, %v: %+v", byte(final), num, code, ok, Look(code))
			}
		}
	}
}

// P9.2: no two codes whose Keys is false have one form; on the pad all but one have one that the main board has, too.
func TestNoTwoHaveOneForm(t *testing.T) {
	type form struct {
		final byte
		num   int
	}
	main := map[form]int{}
	var onThePad []form
	for code := -10; code <= 1114120; code++ {
		e := Look(code)
		if e.Kind != Letter && e.Kind != Number {
			continue
		}
		f := form{e.Final, e.Num}
		if e.Keys {
			onThePad = append(onThePad, f)
			continue
		}
		if was, ok := main[f]; ok {
			t.Errorf("%d and %d have one form: %+v", was, code, f)
		}
		main[f] = code
	}
	if len(main) != 23 {
		t.Errorf("%d forms", len(main))
	}
	for _, f := range onThePad {
		if _, ok := main[f]; !ok && f != (form{final: 'E'}) {
			t.Errorf("only on the pad: %+v", f)
		}
	}
	if len(onThePad) != 11 {
		t.Errorf("%d on the pad", len(onThePad))
	}
}

// P9.2: no code is of two rows: neither of the chapter's, written out, nor of those that the package has.
func TestNoCodeIsOfTwoRows(t *testing.T) {
	seen := map[int]int{}
	for i, row := range table() {
		for _, k := range row {
			if was, ok := seen[k.code]; ok {
				t.Errorf("%d is of the rows %d and %d", k.code, was, i)
			}
			seen[k.code] = i
			if plainLook(k.code) != (Entry{}) {
				t.Errorf("%d is of the row %d, and text", k.code, i)
			}
		}
	}
	told := map[int]bool{}
	for code, e := range codes {
		if told[code] {
			t.Errorf("%d is told twice", code)
		}
		told[code] = true
		if isText(code) {
			t.Errorf("%d is of a row, and text", code)
		}
		checkLook(t, code, e)
	}
	if len(told) != len(seen) {
		t.Errorf("%d codes are told, not %d", len(told), len(seen))
	}
}

// Who ranges over the codes may stop behind each of them.
func TestCodesStop(t *testing.T) {
	for most := 1; most <= len(all()); most++ {
		count := 0
		for range codes {
			count++
			if count == most {
				break
			}
		}
		if count != most {
			t.Fatalf("%d told, not %d", count, most)
		}
	}
}

// Entries are told apart by each of their fields.
func TestEntriesAreCompared(t *testing.T) {
	e := Look(57399)
	others := []Entry{e, e, e, e, e}
	others[0].Kind = Text
	others[1].Final = 'q'
	others[2].Num = 1
	others[3].Char = 49
	others[4].Keys = false
	for _, other := range others {
		if Look(57399) == other {
			t.Errorf("%+v", other)
		}
	}
	if Look(57399) != e || Look(97) != Look(98) || Look(57417) == Look(57350) {
		t.Error("entries aren't compared")
	}
}

// R4: nothing is kept from call to call, in whatever turn they come, and what was told may be written over.
func TestNothingIsKept(t *testing.T) {
	for range 20 {
		for _, k := range all() {
			e := Look(k.code)
			checkLook(t, 97, Entry{Kind: Text})
			checkFind(t, 'S', k.code, 57367, true)
			checkLook(t, -1, Entry{})
			checkFind(t, '~', 4, 0, false)
			if e != k.entry {
				t.Fatalf("%d: %+v then, not %+v", k.code, e, k.entry)
			}
			e.Kind, e.Final, e.Num, e.Char, e.Keys = 99, 'z', -1, -1, !e.Keys
			checkLook(t, k.code, k.entry)
		}
	}
}

// P1: every call ends, and none panics, at numbers of all kinds.
func TestNoCallPanics(t *testing.T) {
	for bit := range 64 {
		for add := -2; add <= 2; add++ {
			n := 1<<bit + add
			for _, n := range []int{n, -n} {
				e := Look(n)
				if e.Kind < None || e.Kind > Mod {
					t.Fatalf("Look(%d) = %+v", n, e)
				}
				for final := range 256 {
					if code, ok := Find(byte(final), n); ok != (code != 0) {
						t.Fatalf("Find(%q, %d) = %d, %v", byte(final), n, code, ok)
					}
				}
			}
		}
	}
}
