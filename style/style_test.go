package style

import (
	"math"
	"slices"
	"strconv"
	"strings"
	"testing"

	"clavier/api"
)

// The calls are as the chapter has them.
var (
	_ func(api.Style) bool               = May
	_ func(api.Style) [][]int            = Params
	_ func(api.Style, [][]int) api.Style = Apply
	_ func([][]int) string               = Text
)

// usualStyle is the usual style, written out.
var usualStyle = api.Style{Fore: -1, Back: -1}

// wantMay tells whether a style may be, by the chapter's words.
func wantMay(s api.Style) bool {
	for _, c := range []int{s.Fore, s.Back} {
		if c != -1 && !(c >= 0 && c <= 255) && !(c >= 256 && c-256 <= 16777215) {
			return false
		}
	}
	return slices.Contains([]int{0, 1, 2, 3, 4, 5}, s.Under)
}

// wantColour is the parameter of a colour that isn't the usual one, by the chapter's words: of Fore, or of Back.
func wantColour(c, low, high, any int) []int {
	switch {
	case c < 8:
		return []int{low + c}
	case c < 16:
		return []int{high + c}
	case c < 256:
		return []int{any, 5, c}
	}
	c -= 256
	return []int{any, 2, -1, c >> 16, c >> 8 & 255, c & 255}
}

// wantParams are a style's parameters, by the chapter's words.
func wantParams(s api.Style) [][]int {
	if !wantMay(s) {
		return nil
	}
	l := [][]int{{0}}
	add := func(there bool, parts ...int) {
		if there {
			l = append(l, parts)
		}
	}
	add(s.Bold, 1)
	add(s.Faint, 2)
	add(s.Italic, 3)
	add(s.Under == 1, 4)
	add(s.Under > 1, 4, s.Under)
	add(s.Blink, 5)
	add(s.Inverse, 7)
	add(s.Hidden, 8)
	add(s.Strike, 9)
	add(s.Fore != -1, wantColour(s.Fore, 30, 82, 38)...)
	add(s.Back != -1, wantColour(s.Back, 40, 92, 48)...)
	return l
}

// singles are the colours that parameters of one part tell, by their numbers.
func singles() (fore, back map[int]int) {
	fore, back = map[int]int{39: -1}, map[int]int{49: -1}
	for c := range 8 {
		fore[30+c], fore[90+c] = c, 8+c
		back[40+c], back[100+c] = c, 8+c
	}
	return fore, back
}

// wantAny is the colour that parts behind 38 or 48 tell, by the chapter's words; ok: they tell one.
func wantAny(l []int) (c int, ok bool) {
	for i, n := range l {
		if i > 0 && (n < 0 || n > 255) && !(l[0] == 2 && i == 1) {
			return 0, false
		}
	}
	switch {
	case len(l) == 2 && l[0] == 5:
		return l[1], true
	case len(l) == 5 && l[0] == 2:
		return 256 + l[2]*65536 + l[3]*256 + l[4], true
	}
	return 0, false
}

// wantOne is a style with one parameter applied, by the chapter's words.
func wantOne(s api.Style, p []int) api.Style {
	if len(p) == 0 || p[0] <= 0 {
		return usualStyle
	}
	fore, back := singles()
	if c, ok := fore[p[0]]; ok {
		s.Fore = c
	}
	if c, ok := back[p[0]]; ok {
		s.Back = c
	}
	switch p[0] {
	case 1:
		s.Bold = true
	case 2:
		s.Faint = true
	case 3:
		s.Italic = true
	case 4:
		if len(p) == 1 {
			s.Under = 1
		} else if slices.Contains([]int{0, 1, 2, 3, 4, 5}, p[1]) {
			s.Under = p[1]
		}
	case 5:
		s.Blink = true
	case 7:
		s.Inverse = true
	case 8:
		s.Hidden = true
	case 9:
		s.Strike = true
	case 38:
		if c, ok := wantAny(p[1:]); ok {
			s.Fore = c
		}
	case 48:
		if c, ok := wantAny(p[1:]); ok {
			s.Back = c
		}
	}
	return s
}

// wantText is parameters as text, by the chapter's words.
func wantText(params [][]int) string {
	var b strings.Builder
	for i, p := range params {
		if i > 0 {
			b.WriteByte(';')
		}
		for j, n := range p {
			if j > 0 {
				b.WriteByte(':')
			}
			if n >= 0 {
				b.WriteString(strconv.Itoa(n))
			}
		}
	}
	return b.String()
}

// checkMay ends the test at the first answer that isn't as it ought to be.
func checkMay(t *testing.T, s api.Style, want bool) {
	t.Helper()
	if got := May(s); got != want {
		t.Fatalf("May(%+v) = %v", s, got)
	}
}

// same tells whether parameters are the same; nil and empty are.
func same(a, b [][]int) bool {
	return slices.EqualFunc(a, b, slices.Equal[[]int])
}

// checkParams ends the test at the first answer that isn't as it ought to be.
func checkParams(t *testing.T, s api.Style, want [][]int) {
	t.Helper()
	if got := Params(s); !same(got, want) {
		t.Fatalf("Params(%+v) = %v, not %v", s, got, want)
	}
}

// checkApply ends the test at the first answer that isn't as it ought to be.
func checkApply(t *testing.T, s api.Style, params [][]int, want api.Style) {
	t.Helper()
	if got := Apply(s, params); got != want {
		t.Fatalf("Apply(%+v, %v) = %+v, not %+v", s, params, got, want)
	}
}

// check holds a style with parameters applied against the chapter.
func check(t *testing.T, s api.Style, params ...[]int) {
	t.Helper()
	want := s
	for _, p := range params {
		want = wantOne(want, p)
	}
	checkApply(t, s, params, want)
}

// checkText holds parameters as text against the chapter.
func checkText(t *testing.T, params [][]int) {
	t.Helper()
	if got, want := Text(params), wantText(params); got != want {
		t.Fatalf("Text(%v) = %q, not %q", params, got, want)
	}
}

// checkStyle holds all that is told of a style against the chapter.
func checkStyle(t *testing.T, s api.Style) {
	t.Helper()
	checkMay(t, s, wantMay(s))
	want := wantParams(s)
	checkParams(t, s, want)
	checkText(t, want)
	if !wantMay(s) {
		return
	}
	for _, from := range starts() {
		checkApply(t, from, Params(s), s)
	}
}

// all is a style that has all there is.
func all() api.Style {
	return api.Style{Bold: true, Faint: true, Italic: true, Blink: true, Inverse: true, Hidden: true, Strike: true, Under: 3, Fore: 1000, Back: 7}
}

// starts are styles to which parameters are applied; some may not be.
func starts() []api.Style {
	return []api.Style{usualStyle, {}, all(), {Bold: true, Hidden: true, Under: 5, Fore: 255, Back: 256}, {Under: 6, Fore: -2, Back: 16777472}, {Strike: true, Under: -1, Fore: math.MinInt, Back: math.MaxInt}}
}

// wraps are numbers that would be n, if only their last bits were told.
func wraps(n int) []int {
	l := []int{n + math.MinInt}
	for _, bits := range []int{8, 16, 24, 31, 32, 33, 62} {
		l = append(l, n+1<<bits, n-1<<bits)
	}
	return l
}

// ends are very small and very great numbers.
func ends() []int {
	return []int{
		math.MinInt, math.MinInt + 1, math.MinInt32, -65536, -256, -255, -3, -2,
		65536, 1114111, 1 << 24, math.MaxInt32, math.MaxInt32 + 1, math.MaxUint32, math.MaxUint32 + 1, math.MaxInt - 1, math.MaxInt,
	}
}

// colours are those at which a form begins or ends, those beside them, and some that are none.
func colours() []int {
	l := ends()
	for _, n := range []int{-1, 0, 8, 16, 255, 256, 256 + 65535, 256 + 65536, 256 + 0x123456, 256 + 0xFEDCBA, 256 + 0xFF0000, 256 + 0xFF00, 16777216, 16777471} {
		for add := -2; add <= 2; add++ {
			l = append(l, n+add)
		}
	}
	for _, n := range []int{-1, 0, 7, 255, 16777471} {
		l = append(l, wraps(n)...)
	}
	return l
}

// allMarks are styles with each set of marks, and the usual colours.
func allMarks() []api.Style {
	l := make([]api.Style, 128)
	for i := range l {
		has := func(bit int) bool { return i>>bit&1 == 1 }
		l[i] = api.Style{Bold: has(0), Faint: has(1), Italic: has(2), Blink: has(3), Inverse: has(4), Hidden: has(5), Strike: has(6), Fore: -1, Back: -1}
	}
	return l
}

// P18.1: styles, and whether they may be, written out.
func TestMayRows(t *testing.T) {
	for _, r := range []struct {
		n           int
		under, fore bool
	}{
		{math.MinInt, false, false},
		{-2, false, false},
		{-1, false, true},
		{0, true, true},
		{1, true, true},
		{5, true, true},
		{6, false, true},
		{255, false, true},
		{256, false, true},
		{16777215, false, true},
		{16777471, false, true},
		{16777472, false, false},
		{1 << 32, false, false},
		{math.MaxInt, false, false},
	} {
		checkMay(t, api.Style{Under: r.n}, r.under)
		checkMay(t, api.Style{Under: r.n, Fore: -1, Back: 16777471, Bold: true}, r.under)
		checkMay(t, api.Style{Fore: r.n}, r.fore)
		checkMay(t, api.Style{Back: r.n}, r.fore)
		checkMay(t, api.Style{Under: 5, Fore: r.n, Back: -1}, r.fore)
		checkMay(t, api.Style{Under: 5, Fore: -1, Back: r.n}, r.fore)
		checkMay(t, api.Style{Under: 6, Fore: r.n, Back: r.n}, false)
		checkMay(t, api.Style{Fore: r.n, Back: -2}, false)
		checkMay(t, api.Style{Fore: -2, Back: r.n}, false)
	}
	checkMay(t, api.Style{}, true)
	checkMay(t, usualStyle, true)
	checkMay(t, all(), true)
}

// P18.1: each Under from below 0 to above 5, and numbers that would wrap round onto one.
func TestEachUnder(t *testing.T) {
	l := ends()
	for n := -20; n <= 300; n++ {
		l = append(l, n)
	}
	for n := range 6 {
		l = append(l, wraps(n)...)
	}
	for _, n := range l {
		for _, s := range []api.Style{usualStyle, {}, all()} {
			s.Under = n
			checkStyle(t, s)
			check(t, s, []int{4, n})
			check(t, s, []int{4, n, 2})
			check(t, all(), []int{4, n})
		}
	}
}

// P18.1: styles, and their parameters, written out.
func TestParamsRows(t *testing.T) {
	for _, r := range []struct {
		s    api.Style
		want string
	}{
		{usualStyle, "0"},
		{api.Style{}, "0;30;40"},
		{api.Style{Bold: true, Fore: 1, Back: -1}, "0;1;31"},
		{api.Style{Faint: true, Fore: 7, Back: -1}, "0;2;37"},
		{api.Style{Italic: true, Fore: 8, Back: -1}, "0;3;90"},
		{api.Style{Under: 1, Fore: 15, Back: -1}, "0;4;97"},
		{api.Style{Under: 2, Fore: 16, Back: -1}, "0;4:2;38:5:16"},
		{api.Style{Under: 5, Fore: 255, Back: -1}, "0;4:5;38:5:255"},
		{api.Style{Blink: true, Fore: 256, Back: -1}, "0;5;38:2::0:0:0"},
		{api.Style{Inverse: true, Fore: 16777471, Back: -1}, "0;7;38:2::255:255:255"},
		{api.Style{Hidden: true, Fore: -1, Back: 0}, "0;8;40"},
		{api.Style{Strike: true, Fore: -1, Back: 7}, "0;9;47"},
		{api.Style{Fore: -1, Back: 8}, "0;100"},
		{api.Style{Fore: -1, Back: 15}, "0;107"},
		{api.Style{Fore: -1, Back: 16}, "0;48:5:16"},
		{api.Style{Fore: -1, Back: 255}, "0;48:5:255"},
		{api.Style{Fore: -1, Back: 256 + 0x010203}, "0;48:2::1:2:3"},
		{api.Style{Fore: 256 + 0xFF0001, Back: 256 + 0x00FF02}, "0;38:2::255:0:1;48:2::0:255:2"},
		{all(), "0;1;2;3;4:3;5;7;8;9;38:2::0:2:232;47"},
	} {
		if got := Text(Params(r.s)); got != r.want {
			t.Errorf("the parameters of %+v are %q, not %q", r.s, got, r.want)
		}
		checkStyle(t, r.s)
	}
	checkParams(t, api.Style{Fore: -1, Back: 256 + 0x010203}, [][]int{{0}, {48, 2, -1, 1, 2, 3}})
	checkParams(t, api.Style{Under: 4, Fore: 9, Back: 200}, [][]int{{0}, {4, 4}, {91}, {48, 5, 200}})
	for _, s := range []api.Style{{Under: 6}, {Under: -1}, {Fore: -2}, {Fore: 16777472}, {Back: -2}, {Back: 16777472}, {Bold: true, Fore: 1, Back: math.MinInt}, {Bold: true, Fore: math.MaxInt, Back: 1}} {
		checkParams(t, s, nil)
	}
}

// P18.1, P18.4: all sets of marks, with each Under, and some colours.
func TestAllMarks(t *testing.T) {
	for _, s := range allMarks() {
		for s.Under = range 6 {
			checkStyle(t, s)
			s.Fore, s.Back = 1, 300
			checkStyle(t, s)
			s.Fore, s.Back = 12, 16
			checkStyle(t, s)
			s.Fore, s.Back = -1, -1
		}
		s.Under = 6
		checkStyle(t, s)
	}
}

// P18.1, P18.4: all colours below 1000, and those at the borders, as Fore, as Back, and as both.
func TestAllColours(t *testing.T) {
	l := colours()
	for n := -5; n < 1000; n++ {
		l = append(l, n)
	}
	for i, n := range l {
		for _, s := range []api.Style{usualStyle, {Bold: true, Under: 2, Fore: 3, Back: 4}} {
			one, two, both := s, s, s
			one.Fore, two.Back, both.Fore, both.Back = n, n, n, l[len(l)-1-i]
			checkStyle(t, one)
			checkStyle(t, two)
			checkStyle(t, both)
		}
	}
	for n := 256; n <= 16777471; n += 997 {
		checkStyle(t, api.Style{Fore: n, Back: 16777471 + 256 - n})
	}
}

// P18.1, P18.4: all pairs of colours at the borders.
func TestPairsOfColours(t *testing.T) {
	for _, fore := range colours() {
		for _, back := range colours() {
			checkStyle(t, api.Style{Italic: true, Fore: fore, Back: back})
		}
	}
}

// P18.2: parameters applied, written out.
func TestApplyRows(t *testing.T) {
	s := all()
	with := func(change func(*api.Style)) api.Style {
		s := all()
		change(&s)
		return s
	}
	for _, r := range []struct {
		p    []int
		want api.Style
	}{
		{nil, usualStyle},
		{[]int{}, usualStyle},
		{[]int{0}, usualStyle},
		{[]int{0, 1}, usualStyle},
		{[]int{-1}, usualStyle},
		{[]int{-1, 31}, usualStyle},
		{[]int{-31}, usualStyle},
		{[]int{math.MinInt}, usualStyle},
		{[]int{4}, with(func(s *api.Style) { s.Under = 1 })},
		{[]int{4, 0}, with(func(s *api.Style) { s.Under = 0 })},
		{[]int{4, 1}, with(func(s *api.Style) { s.Under = 1 })},
		{[]int{4, 5}, with(func(s *api.Style) { s.Under = 5 })},
		{[]int{4, 5, 2}, with(func(s *api.Style) { s.Under = 5 })},
		{[]int{4, 2, 9}, with(func(s *api.Style) { s.Under = 2 })},
		{[]int{4, 6}, s},
		{[]int{4, -1}, s},
		{[]int{4, 6, 1}, s},
		{[]int{4, 1 << 32}, s},
		{[]int{30}, with(func(s *api.Style) { s.Fore = 0 })},
		{[]int{37}, with(func(s *api.Style) { s.Fore = 7 })},
		{[]int{37, 5, 1}, with(func(s *api.Style) { s.Fore = 7 })},
		{[]int{90}, with(func(s *api.Style) { s.Fore = 8 })},
		{[]int{97}, with(func(s *api.Style) { s.Fore = 15 })},
		{[]int{39}, with(func(s *api.Style) { s.Fore = -1 })},
		{[]int{39, 5}, with(func(s *api.Style) { s.Fore = -1 })},
		{[]int{40}, with(func(s *api.Style) { s.Back = 0 })},
		{[]int{47}, with(func(s *api.Style) { s.Back = 7 })},
		{[]int{100}, with(func(s *api.Style) { s.Back = 8 })},
		{[]int{107}, with(func(s *api.Style) { s.Back = 15 })},
		{[]int{49}, with(func(s *api.Style) { s.Back = -1 })},
		{[]int{38, 5, 0}, with(func(s *api.Style) { s.Fore = 0 })},
		{[]int{38, 5, 255}, with(func(s *api.Style) { s.Fore = 255 })},
		{[]int{48, 5, 0}, with(func(s *api.Style) { s.Back = 0 })},
		{[]int{48, 5, 255}, with(func(s *api.Style) { s.Back = 255 })},
		{[]int{38, 2, -1, 0, 0, 0}, with(func(s *api.Style) { s.Fore = 256 })},
		{[]int{38, 2, 7, 1, 2, 3}, with(func(s *api.Style) { s.Fore = 256 + 0x010203 })},
		{[]int{38, 2, math.MinInt, 255, 0, 0}, with(func(s *api.Style) { s.Fore = 256 + 0xFF0000 })},
		{[]int{48, 2, math.MaxInt, 0, 255, 0}, with(func(s *api.Style) { s.Back = 256 + 0xFF00 })},
		{[]int{48, 2, 0, 255, 255, 255}, with(func(s *api.Style) { s.Back = 16777471 })},
		{[]int{38}, s},
		{[]int{38, 5}, s},
		{[]int{38, 5, -1}, s},
		{[]int{38, 5, 256}, s},
		{[]int{38, 5, 1, 2}, s},
		{[]int{38, 2}, s},
		{[]int{38, 2, 1, 2, 3}, s},
		{[]int{38, 2, -1, 1, 2}, s},
		{[]int{38, 2, -1, 1, 2, 3, 4}, s},
		{[]int{38, 2, -1, -1, 2, 3}, s},
		{[]int{38, 2, -1, 1, -1, 3}, s},
		{[]int{38, 2, -1, 1, 2, -1}, s},
		{[]int{38, 2, -1, 256, 2, 3}, s},
		{[]int{38, 2, -1, 1, 256, 3}, s},
		{[]int{38, 2, -1, 1, 2, 256}, s},
		{[]int{38, 1, 1}, s},
		{[]int{38, 3, -1, 1, 2, 3}, s},
		{[]int{38, -1, 1}, s},
		{[]int{38, 5, -1, 1, 2, 3}, s},
		{[]int{38, 2, 1}, s},
		{[]int{48}, s},
		{[]int{48, 5}, s},
		{[]int{48, 5, 256}, s},
		{[]int{48, 0, 1}, s},
		{[]int{48, 2, 1, 2, 3}, s},
		{[]int{6}, s}, {[]int{10}, s}, {[]int{21}, s}, {[]int{22}, s}, {[]int{24}, s}, {[]int{27}, s}, {[]int{29}, s}, {[]int{50}, s}, {[]int{58, 5, 1}, s}, {[]int{59}, s}, {[]int{89}, s}, {[]int{98}, s}, {[]int{99}, s}, {[]int{108}, s},
		{[]int{math.MaxInt}, s}, {[]int{1 << 32}, s}, {[]int{256}, s},
	} {
		checkApply(t, s, [][]int{r.p}, r.want)
		check(t, s, r.p)
		check(t, usualStyle, r.p)
	}
	for n, want := range map[int]api.Style{1: {Bold: true}, 2: {Faint: true}, 3: {Italic: true}, 5: {Blink: true}, 7: {Inverse: true}, 8: {Hidden: true}, 9: {Strike: true}} {
		checkApply(t, api.Style{}, [][]int{{n}}, want)
		checkApply(t, api.Style{}, [][]int{{n, 0}}, want)
		checkApply(t, api.Style{}, [][]int{{n, -1, 5}}, want)
		checkApply(t, want, [][]int{{n}}, want)
	}
	for _, s := range starts() {
		checkApply(t, s, nil, s)
		checkApply(t, s, [][]int{}, s)
	}
}

// P18.2: each number, from far below 0 to above 107, as a parameter of one part, and with further ones.
func TestApplyEachNumber(t *testing.T) {
	l := append(ends(), wraps(0)...)
	for n := -300; n <= 600; n++ {
		l = append(l, n)
	}
	for _, n := range []int{1, 4, 9, 30, 38, 39, 48, 97, 107} {
		l = append(l, wraps(n)...)
	}
	for _, s := range starts() {
		for _, n := range l {
			check(t, s, []int{n})
			for _, further := range [][]int{{0}, {1}, {-1}, {5, 1}, {5, 256}, {2, -1, 1, 2, 3}, {2, 1, 2, 3}, {3, 3}, {1, 2, 3, 4, 5, 6, 7}} {
				check(t, s, append([]int{n}, further...))
			}
		}
	}
}

// P18.2: parts of all kinds behind 4, 38 and 48: ways from below 0 to above 5, and up to seven numbers at the ends of a byte.
func TestApplyParts(t *testing.T) {
	numbers := []int{-1, 0, 255, 256}
	for _, first := range []int{4, 38, 48} {
		for way := -2; way <= 7; way++ {
			for count := range 7 {
				if count > 5 && way != 2 && way != 5 {
					continue
				}
				p := append([]int{first, way}, make([]int, count)...)
				for i := range 1 << (2 * count) {
					for j := range count {
						p[2+j] = numbers[i>>(2*j)&3]
					}
					check(t, all(), p)
				}
			}
		}
	}
}

// P18.2: each number as a part of a colour.
func TestApplyEachPart(t *testing.T) {
	l := append(ends(), wraps(0)...)
	l = append(l, wraps(255)...)
	for n := -300; n <= 600; n++ {
		l = append(l, n)
	}
	for _, n := range l {
		for _, first := range []int{38, 48} {
			for _, p := range [][]int{{5, n}, {n, 5}, {n, -1, 1, 2, 3}, {2, n, 1, 2, 3}, {2, -1, n, 2, 3}, {2, -1, 1, n, 3}, {2, -1, 1, 2, n}, {2, -1, n, n, n}, {2, n}, {5, 1, n}, {2, -1, 1, 2, 3, n}} {
				check(t, all(), append([]int{first}, p...))
				check(t, usualStyle, append([]int{first}, p...))
			}
		}
	}
}

// P18.2: parameters are applied one by one, each to what those ahead of it have made, and none asks another one.
func TestApplyInTurn(t *testing.T) {
	for _, r := range []struct {
		params [][]int
		want   api.Style
	}{
		{[][]int{{1}, {31}}, api.Style{Bold: true, Fore: 1, Back: -1}},
		{[][]int{{1}, {0}, {31}}, api.Style{Fore: 1, Back: -1}},
		{[][]int{{1}, {}, {3}}, api.Style{Italic: true, Fore: -1, Back: -1}},
		{[][]int{{31}, {32}, {41}, {39}}, api.Style{Fore: -1, Back: 1}},
		{[][]int{{4}, {4, 3}, {4, 6}}, api.Style{Under: 3, Fore: -1, Back: -1}},
		{[][]int{{4, 3}, {4, 0}}, usualStyle},
		{[][]int{{38}, {5}, {1}}, api.Style{Blink: true, Bold: true, Fore: -1, Back: -1}},
		{[][]int{{38}, {2}, {7}, {8}, {9}}, api.Style{Faint: true, Inverse: true, Hidden: true, Strike: true, Fore: -1, Back: -1}},
		{[][]int{{38, 5}, {1}}, api.Style{Bold: true, Fore: -1, Back: -1}},
		{[][]int{{48, 5, 9}, {38, 2, -1, 0, 0, 1}, {99}}, api.Style{Fore: 257, Back: 9}},
		{[][]int{{1}, {2}, {22}}, api.Style{Bold: true, Faint: true, Fore: -1, Back: -1}},
	} {
		checkApply(t, usualStyle, r.params, r.want)
		check(t, all(), r.params...)
	}
	seed := uint32(18)
	next := func(n int) int {
		seed = seed*1664525 + 1013904223
		return int(seed>>8) % n
	}
	for range 40000 {
		params := make([][]int, next(9))
		for i := range params {
			params[i] = make([]int, next(8))
			for j := range params[i] {
				params[i][j] = []int{next(112) - 2, next(7), 2, 5, 38, 48, 4, next(260) - 2}[next(8)]
			}
		}
		check(t, starts()[next(6)], params...)
		checkText(t, params)
	}
}

// P18.3: parameters as text, written out.
func TestTextRows(t *testing.T) {
	for _, r := range []struct {
		params [][]int
		want   string
	}{
		{nil, ""},
		{[][]int{}, ""},
		{[][]int{nil}, ""},
		{[][]int{{}}, ""},
		{[][]int{{-1}}, ""},
		{[][]int{{}, {}}, ";"},
		{[][]int{{-1}, {}, {-7}}, ";;"},
		{[][]int{{0}}, "0"},
		{[][]int{{0}, {1}, {31}}, "0;1;31"},
		{[][]int{{4, 3}}, "4:3"},
		{[][]int{{4, 3}, {}, {5}}, "4:3;;5"},
		{[][]int{{-1, -1}}, ":"},
		{[][]int{{-1, 5, -2}}, ":5:"},
		{[][]int{{38, 2, -1, 1, 2, 3}, {48, 5, 255}}, "38:2::1:2:3;48:5:255"},
		{[][]int{{math.MaxInt, math.MinInt}}, "9223372036854775807:"},
		{[][]int{{1114111}, {1114112}}, "1114111;1114112"},
	} {
		if got := Text(r.params); got != r.want {
			t.Errorf("Text(%v) = %q, not %q", r.params, got, r.want)
		}
		checkText(t, r.params)
	}
	for _, n := range append(ends(), wraps(0)...) {
		checkText(t, [][]int{{n}, {n, n}, {1, n, 2}})
	}
}

// P18.3: very many parameters, and parts.
func TestLongText(t *testing.T) {
	long := make([]int, 3000)
	for i := range long {
		long[i] = i - 5
	}
	params := [][]int{long, long}
	for i := range 3000 {
		params = append(params, long[:i%4])
	}
	checkText(t, params)
	check(t, all(), params...)
}

// P18.4: what Params tells of a style that may be, applied to any one, makes that style; no two styles have the same parameters.
func TestThereAndBack(t *testing.T) {
	told := map[string]api.Style{}
	for i, s := range allMarks() {
		for s.Under = range 6 {
			for j, fore := range []int{-1, 0, 7, 8, 15, 16, 255, 256, 16777471} {
				s.Fore, s.Back = fore, []int{-1, 3, 12, 100, 70000}[(i+j)%5]
				text := Text(Params(s))
				if other, ok := told[text]; ok {
					t.Fatalf("%+v and %+v are both told by %q", s, other, text)
				}
				told[text] = s
				for _, from := range starts() {
					checkApply(t, from, Params(s), s)
					checkApply(t, from, append([][]int{{5}, {4, 4}, {38, 5, 77}}, Params(s)...), s)
				}
			}
		}
	}
}

// The chapter's example.
func TestExample(t *testing.T) {
	s := api.Style{Bold: true, Fore: 1, Back: -1}
	if got := Text(Params(s)); got != "0;1;31" {
		t.Error(got)
	}
	checkApply(t, api.Style{}, [][]int{{0}, {1}, {31}}, s)
}

// copied are parameters with room of their own.
func copied(params [][]int) [][]int {
	l := make([][]int, len(params))
	for i, p := range params {
		l[i] = append([]int(nil), p...)
	}
	return l
}

// R3: what is handed in stays as it is; what is told is the caller's own, no two lists of it share any, and the same is told twice.
func TestWhatIsHandedInStays(t *testing.T) {
	for _, s := range append(starts(), allMarks()[7], api.Style{Under: 4, Fore: 300, Back: 20}) {
		was, want := s, wantParams(s)
		one := Params(s)
		for i, p := range one {
			for j := range p[:cap(p)] {
				p[:cap(p)][j] = 99
			}
			one[i] = append(one[i], 98)
			for k := i + 1; k < len(one); k++ {
				if !slices.Equal(one[k], want[k]) {
					t.Fatalf("%v shares a part with %v", one[k], p)
				}
			}
		}
		clear(one[:cap(one)])
		checkParams(t, s, want)
		params := append(wantParams(all()), nil, []int{}, []int{4, 6}, []int{38, 2, -1, 1, 2, 3}, []int{-1, 4})
		before := copied(params)
		first, text := Apply(s, params), Text(params)
		if s != was || !same(params, before) {
			t.Fatalf("%+v, %v became %+v, %v", was, before, s, params)
		}
		if Apply(s, params) != first || Text(params) != text {
			t.Fatalf("Apply(%+v, %v) and Text tell it otherwise the second time", s, params)
		}
	}
}

// R4: nothing is kept from call to call: in any order of calls each is told what it is told alone.
func TestNothingIsKept(t *testing.T) {
	marks, l := allMarks(), colours()
	for i := range 20000 {
		s := marks[i*37%len(marks)]
		s.Under, s.Fore, s.Back = i%7, l[i*5%len(l)], l[i*11%len(l)]
		checkMay(t, s, wantMay(s))
		checkParams(t, s, wantParams(s))
		check(t, s, []int{i % 120}, []int{38, 5, i % 300})
	}
}

// P1: every call ends, and none panics, at all numbers; and each is as the chapter says.
func TestNoCallPanics(t *testing.T) {
	var l []int
	for bit := range 64 {
		for add := -2; add <= 2; add++ {
			l = append(l, 1<<bit+add, -(1<<bit + add))
		}
	}
	for i, n := range l {
		other := l[len(l)-1-i]
		checkStyle(t, api.Style{Under: n, Fore: other, Back: n})
		checkStyle(t, api.Style{Under: 5, Fore: n, Back: other})
		checkStyle(t, api.Style{Under: 0, Fore: -1, Back: n})
		for _, p := range [][]int{{n}, {n, other}, {4, n}, {38, n}, {38, 5, n}, {38, 2, n, other, n, n}, {48, 2, 0, n, 1, other}, {n, 5, other}, {n, 2, 1, 1, 1, 1}} {
			for _, s := range starts() {
				check(t, s, p)
			}
			checkText(t, [][]int{p, p})
		}
	}
}
