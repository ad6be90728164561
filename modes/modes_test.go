package modes

import (
	"math"
	"math/rand"
	"slices"
	"testing"

	"clavier/api"
)

// mode is a mode that may be set: its number, and zero Modes in which it is set.
type mode struct {
	private bool
	n       int
	alone   api.Modes
}

func flags() []mode {
	return []mode{
		{false, 2, api.Modes{Lock: true}},
		{false, 20, api.Modes{Line: true}},
		{true, 1, api.Modes{Cursor: true}},
		{true, 66, api.Modes{Keypad: true}},
		{true, 67, api.Modes{Back: true}},
		{true, 1004, api.Modes{Focus: true}},
		{true, 2004, api.Modes{Paste: true}},
	}
}

func mice() []mode {
	return []mode{
		{true, 9, api.Modes{Mouse: 9}},
		{true, 1000, api.Modes{Mouse: 1000}},
		{true, 1002, api.Modes{Mouse: 1002}},
		{true, 1003, api.Modes{Mouse: 1003}},
	}
}

func codings() []mode {
	return []mode{
		{true, 1005, api.Modes{Coding: 1005}},
		{true, 1006, api.Modes{Coding: 1006}},
		{true, 1015, api.Modes{Coding: 1015}},
	}
}

func all() []mode { return slices.Concat(flags(), mice(), codings()) }

// fixedModes are the modes that can't be set, and how they are.
func fixedModes() []struct {
	private bool
	n, how  int
} {
	return []struct {
		private bool
		n, how  int
	}{
		{false, 4, 4}, {false, 12, 4}, {true, 7, 3}, {true, 25, 3},
	}
}

// places are Modes of all kinds to begin with: bare and full ones, ones with each mode alone, and ones that may not be.
func places() []api.Modes {
	full := api.Modes{Cursor: true, Keypad: true, Back: true, Focus: true, Paste: true, Lock: true, Line: true, Mouse: 1002, Coding: 1015, Other: 2}
	wrong := full
	wrong.Mouse, wrong.Coding, wrong.Other = 1001, 1016, 3
	l := []api.Modes{{}, {Other: 1}, full, wrong,
		{Mouse: -1}, {Mouse: 1}, {Mouse: 8}, {Mouse: 1006, Coding: 1003}, {Coding: 1000}, {Coding: 2004, Focus: true},
		{Mouse: math.MinInt, Coding: math.MaxInt, Other: math.MinInt}, {Mouse: math.MaxInt, Coding: math.MinInt, Other: math.MaxInt},
	}
	for _, o := range all() {
		l = append(l, o.alone)
	}
	return l
}

// numbers are all that are near a mode's, 0, negative ones, and very great ones, among them those that would be a mode's if they wrapped round.
func numbers() []int {
	l := []int{
		math.MinInt, math.MinInt + 1, math.MinInt32, -1 << 32, 65535, 65536, 70000, 1114111, 1114112, 1 << 32, math.MaxInt32, math.MaxInt - 1, math.MaxInt,
	}
	for n := -2100; n <= 2100; n++ {
		l = append(l, n)
	}
	var known []int
	for _, o := range all() {
		known = append(known, o.n)
	}
	for _, f := range fixedModes() {
		known = append(known, f.n)
	}
	for _, n := range known {
		l = append(l, n+1<<16, n-1<<16, n+1<<31, n-1<<31, n+1<<32, n-1<<32, n+1<<62, math.MinInt+n, math.MaxInt-n)
	}
	return l
}

// plainSet is Set, written out.
func plainSet(m api.Modes, private bool, n int, on bool) (api.Modes, bool) {
	only := func(choice, n int) int {
		if on {
			return n
		}
		if choice == n {
			return 0
		}
		return choice
	}
	if !private {
		switch n {
		case 2:
			m.Lock = on
		case 20:
			m.Line = on
		default:
			return m, false
		}
		return m, true
	}
	switch n {
	case 1:
		m.Cursor = on
	case 66:
		m.Keypad = on
	case 67:
		m.Back = on
	case 1004:
		m.Focus = on
	case 2004:
		m.Paste = on
	case 9, 1000, 1002, 1003:
		m.Mouse = only(m.Mouse, n)
	case 1005, 1006, 1015:
		m.Coding = only(m.Coding, n)
	default:
		return m, false
	}
	return m, true
}

// plainGet is Get, written out.
func plainGet(m api.Modes, private bool, n int) int {
	is := func(isSet bool) int {
		if isSet {
			return 1
		}
		return 2
	}
	if !private {
		switch n {
		case 2:
			return is(m.Lock)
		case 20:
			return is(m.Line)
		case 4, 12:
			return 4
		}
		return 0
	}
	switch n {
	case 1:
		return is(m.Cursor)
	case 66:
		return is(m.Keypad)
	case 67:
		return is(m.Back)
	case 1004:
		return is(m.Focus)
	case 2004:
		return is(m.Paste)
	case 9, 1000, 1002, 1003:
		return is(m.Mouse == n)
	case 1005, 1006, 1015:
		return is(m.Coding == n)
	case 7, 25:
		return 3
	}
	return 0
}

func checkSet(t *testing.T, m api.Modes, private bool, n int, on bool, want api.Modes, can bool) {
	t.Helper()
	if got, ok := Set(m, private, n, on); got != want || ok != can {
		t.Errorf("Set(%+v, %v, %d, %v) = %+v, %v, not %+v, %v", m, private, n, on, got, ok, want, can)
	}
}

func checkGet(t *testing.T, m api.Modes, private bool, n, want int) {
	t.Helper()
	if how := Get(m, private, n); how != want {
		t.Errorf("Get(%+v, %v, %d) = %d, not %d", m, private, n, how, want)
	}
}

// P6.1: Mouse may be 0, 9, 1000, 1002 or 1003, Coding 0, 1005, 1006 or 1015, Other 0, 1 or 2, whatever else is set.
func TestMayOfEachNumber(t *testing.T) {
	for _, n := range numbers() {
		mouse := slices.Contains([]int{0, 9, 1000, 1002, 1003}, n)
		coding := slices.Contains([]int{0, 1005, 1006, 1015}, n)
		other := n == 0 || n == 1 || n == 2
		for _, c := range []struct {
			m    api.Modes
			want bool
		}{
			{api.Modes{Mouse: n}, mouse}, {api.Modes{Coding: n}, coding}, {api.Modes{Other: n}, other},
			{api.Modes{Mouse: n, Coding: 1006, Other: 2, Cursor: true, Lock: true}, mouse},
			{api.Modes{Mouse: 1003, Coding: n, Other: 1, Paste: true, Line: true}, coding},
			{api.Modes{Mouse: 9, Coding: 1015, Other: n, Keypad: true, Back: true, Focus: true}, other},
			{api.Modes{Mouse: n, Coding: n}, n == 0}, {api.Modes{Mouse: n, Other: n}, n == 0}, {api.Modes{Coding: n, Other: n}, n == 0},
			{api.Modes{Mouse: n, Coding: 1}, false}, {api.Modes{Coding: n, Other: 3}, false}, {api.Modes{Other: n, Mouse: -9}, false},
		} {
			if ok := May(c.m); ok != c.want {
				t.Errorf("May(%+v) = %v", c.m, ok)
			}
		}
	}
}

// P6.1: all Modes of numbers that may be, may be, with any flags.
func TestMayOfAllThatMayBe(t *testing.T) {
	bit := func(n, place int) bool { return n>>place&1 == 1 }
	for set := range 128 {
		for _, mouse := range []int{0, 9, 1000, 1002, 1003} {
			for _, coding := range []int{0, 1005, 1006, 1015} {
				for other := range 3 {
					m := api.Modes{
						Cursor: bit(set, 0), Keypad: bit(set, 1), Back: bit(set, 2), Focus: bit(set, 3), Paste: bit(set, 4), Lock: bit(set, 5), Line: bit(set, 6),
						Mouse: mouse, Coding: coding, Other: other,
					}
					if !May(m) {
						t.Errorf("May(%+v) = false", m)
					}
				}
			}
		}
	}
}

// P6.1: the private modes that may be set, rising.
func TestOwn(t *testing.T) {
	want := []int{1, 9, 66, 67, 1000, 1002, 1003, 1004, 1005, 1006, 1015, 2004}
	for range 50 { // An order that hung on chance would show.
		if own := Own(); !slices.Equal(own, want) {
			t.Fatalf("Own() = %v", own)
		}
	}
}

// P6.1: Own tells just the private modes that Set can set.
func TestOwnIsWhatMayBeSet(t *testing.T) {
	own := Own()
	for _, n := range numbers() {
		if _, ok := Set(api.Modes{}, true, n, true); ok != slices.Contains(own, n) {
			t.Errorf("Own and Set(%d) differ", n)
		}
	}
}

// R3: what Own tells is the caller's own.
func TestOwnIsNotShared(t *testing.T) {
	want := []int{1, 9, 66, 67, 1000, 1002, 1003, 1004, 1005, 1006, 1015, 2004}
	first, second := Own(), Own()
	for i := range first[:cap(first)] {
		first[:cap(first)][i] = -7
	}
	_ = append(first[:3], 5, 6, 7)
	if !slices.Equal(second, want) || !slices.Equal(Own(), want) {
		t.Errorf("Own() = %v, and then %v", second, Own())
	}
	m, ok := Set(api.Modes{}, true, 1, true)
	if !ok || !m.Cursor || Get(m, true, 1) != 1 || Get(m, true, -7) != 0 || !May(api.Modes{Mouse: 9}) || May(api.Modes{Mouse: -7}) {
		t.Error("a changed list changed what may be set")
	}
}

// P6.2, P6.3: each mode alone, set and reset, in bare Modes.
func TestEachModeAlone(t *testing.T) {
	for _, o := range all() {
		checkGet(t, api.Modes{}, o.private, o.n, 2)
		checkGet(t, o.alone, o.private, o.n, 1)
		checkSet(t, api.Modes{}, o.private, o.n, true, o.alone, true)
		checkSet(t, api.Modes{}, o.private, o.n, false, api.Modes{}, true)
		checkSet(t, o.alone, o.private, o.n, true, o.alone, true)
		checkSet(t, o.alone, o.private, o.n, false, api.Modes{}, true)
	}
}

// P6.2, P6.3: each flag is set and reset where all else is set.
func TestEachFlagAmongAll(t *testing.T) {
	full := api.Modes{Cursor: true, Keypad: true, Back: true, Focus: true, Paste: true, Lock: true, Line: true, Mouse: 1000, Coding: 1006, Other: 1}
	without := func(f func(m *api.Modes)) api.Modes {
		m := full
		f(&m)
		return m
	}
	for _, c := range []struct {
		private bool
		n       int
		m       api.Modes
	}{
		{false, 2, without(func(m *api.Modes) { m.Lock = false })},
		{false, 20, without(func(m *api.Modes) { m.Line = false })},
		{true, 1, without(func(m *api.Modes) { m.Cursor = false })},
		{true, 66, without(func(m *api.Modes) { m.Keypad = false })},
		{true, 67, without(func(m *api.Modes) { m.Back = false })},
		{true, 1004, without(func(m *api.Modes) { m.Focus = false })},
		{true, 2004, without(func(m *api.Modes) { m.Paste = false })},
		{true, 1000, without(func(m *api.Modes) { m.Mouse = 0 })},
		{true, 1006, without(func(m *api.Modes) { m.Coding = 0 })},
	} {
		checkGet(t, full, c.private, c.n, 1)
		checkGet(t, c.m, c.private, c.n, 2)
		checkSet(t, full, c.private, c.n, false, c.m, true)
		checkSet(t, c.m, c.private, c.n, false, c.m, true)
		checkSet(t, c.m, c.private, c.n, true, full, true)
		checkSet(t, full, c.private, c.n, true, full, true)
	}
}

// P6.2: each of the mouse's modes, and of its codings, in the place of each other one, and reset where it isn't set.
func TestOneTakesTheOthersPlace(t *testing.T) {
	with := func(m api.Modes) api.Modes {
		m.Cursor, m.Line, m.Other = true, true, 2
		return m
	}
	none := with(api.Modes{})
	for _, group := range [][]mode{mice(), codings()} {
		for _, was := range group {
			for _, o := range group {
				checkSet(t, was.alone, true, o.n, true, o.alone, true)
				checkSet(t, with(was.alone), true, o.n, true, with(o.alone), true)
				if o.n == was.n {
					checkSet(t, with(was.alone), true, o.n, false, none, true)
					checkGet(t, was.alone, true, o.n, 1)
				} else {
					checkSet(t, with(was.alone), true, o.n, false, with(was.alone), true)
					checkGet(t, was.alone, true, o.n, 2)
				}
			}
		}
	}
}

// P6.2: a coding doesn't touch the mouse's mode, and the other way round.
func TestMouseAndCodingStandApart(t *testing.T) {
	for _, mouse := range mice() {
		for _, coding := range codings() {
			both := api.Modes{Mouse: mouse.n, Coding: coding.n}
			checkSet(t, mouse.alone, true, coding.n, true, both, true)
			checkSet(t, coding.alone, true, mouse.n, true, both, true)
			checkSet(t, both, true, mouse.n, false, coding.alone, true)
			checkSet(t, both, true, coding.n, false, mouse.alone, true)
			checkSet(t, mouse.alone, true, coding.n, false, mouse.alone, true)
			checkSet(t, coding.alone, true, mouse.n, false, coding.alone, true)
			checkGet(t, mouse.alone, true, coding.n, 2)
			checkGet(t, coding.alone, true, mouse.n, 2)
			checkGet(t, both, true, mouse.n, 1)
			checkGet(t, both, true, coding.n, 1)
		}
	}
}

// P6.2, P6.3: what is fixed can't be set, nor reset, and is told as it is, whatever is set; with the other kind there is none.
func TestFixedModes(t *testing.T) {
	for _, m := range places() {
		for _, f := range fixedModes() {
			checkGet(t, m, f.private, f.n, f.how)
			checkGet(t, m, !f.private, f.n, 0)
			for _, on := range []bool{true, false} {
				checkSet(t, m, f.private, f.n, on, m, false)
				checkSet(t, m, !f.private, f.n, on, m, false)
			}
		}
	}
}

// P6.2, P6.3: a private number that is asked as one that isn't private is none, and the other way round.
func TestKindsAreApart(t *testing.T) {
	for _, m := range places() {
		for _, o := range all() {
			checkGet(t, m, !o.private, o.n, 0)
			checkSet(t, m, !o.private, o.n, true, m, false)
			checkSet(t, m, !o.private, o.n, false, m, false)
		}
	}
}

// P6.2, P6.3: of all other numbers there is none.
func TestNumbersOfNoMode(t *testing.T) {
	for _, private := range []bool{true, false} {
		known := map[int]bool{}
		for _, o := range all() {
			known[o.n] = known[o.n] || o.private == private
		}
		for _, f := range fixedModes() {
			known[f.n] = known[f.n] || f.private == private
		}
		for _, n := range numbers() {
			if known[n] {
				continue
			}
			for _, m := range []api.Modes{{}, {Mouse: n, Coding: n, Other: n}, places()[2]} {
				checkGet(t, m, private, n, 0)
				checkSet(t, m, private, n, true, m, false)
				checkSet(t, m, private, n, false, m, false)
			}
		}
	}
}

// P6.2, P6.3: Modes that may not be handed in are left as they are, but for the mode that is set.
func TestModesThatMayNotBe(t *testing.T) {
	wrong := api.Modes{Cursor: true, Focus: true, Line: true, Mouse: 1001, Coding: -1006, Other: 77}
	for _, c := range []struct {
		private bool
		n       int
		on      bool
		change  func(m *api.Modes)
	}{
		{true, 1000, true, func(m *api.Modes) { m.Mouse = 1000 }},
		{true, 1000, false, func(m *api.Modes) {}},
		{true, 9, false, func(m *api.Modes) {}},
		{true, 9, true, func(m *api.Modes) { m.Mouse = 9 }},
		{true, 1006, true, func(m *api.Modes) { m.Coding = 1006 }},
		{true, 1006, false, func(m *api.Modes) {}},
		{true, 1005, false, func(m *api.Modes) {}},
		{true, 1015, true, func(m *api.Modes) { m.Coding = 1015 }},
		{true, 1, false, func(m *api.Modes) { m.Cursor = false }},
		{true, 2004, true, func(m *api.Modes) { m.Paste = true }},
		{true, 2004, false, func(m *api.Modes) {}},
		{false, 2, true, func(m *api.Modes) { m.Lock = true }},
		{false, 20, false, func(m *api.Modes) { m.Line = false }},
	} {
		want := wrong
		c.change(&want)
		checkSet(t, wrong, c.private, c.n, c.on, want, true)
	}
	for _, n := range []int{1001, -1006, 77, 0, 7, 25, 4, 12} {
		checkSet(t, wrong, true, n, true, wrong, false)
		checkSet(t, wrong, true, n, false, wrong, false)
	}
	checkGet(t, wrong, true, 1001, 0)
	checkGet(t, wrong, true, -1006, 0)
	checkGet(t, wrong, false, 77, 0)
	checkGet(t, wrong, true, 1000, 2)
	checkGet(t, wrong, true, 1006, 2)
	checkGet(t, wrong, true, 1, 1)
	checkGet(t, wrong, false, 20, 1)
	// A coding's number isn't set, if it stands where the mouse's mode does.
	crossed := api.Modes{Mouse: 1006, Coding: 1000}
	checkGet(t, crossed, true, 1006, 2)
	checkGet(t, crossed, true, 1000, 2)
	checkSet(t, crossed, true, 1006, false, crossed, true)
	checkSet(t, crossed, true, 1000, false, crossed, true)
	checkSet(t, crossed, true, 1006, true, api.Modes{Mouse: 1006, Coding: 1006}, true)
	checkSet(t, crossed, true, 1000, true, api.Modes{Mouse: 1000, Coding: 1000}, true)
	// Numbers of flags are none of Mouse, nor of Coding.
	odd := api.Modes{Mouse: 1, Coding: 2004, Other: 20}
	checkGet(t, odd, true, 1, 2)
	checkGet(t, odd, true, 2004, 2)
	checkGet(t, odd, false, 20, 2)
	checkSet(t, odd, true, 1, false, odd, true)
}

// P6.2, P6.3: all numbers, in Modes of all kinds, against what is written out.
func TestAgainstPlain(t *testing.T) {
	for _, m := range places() {
		for _, n := range numbers() {
			for _, private := range []bool{true, false} {
				checkGet(t, m, private, n, plainGet(m, private, n))
				for _, on := range []bool{true, false} {
					want, can := plainSet(m, private, n, on)
					checkSet(t, m, private, n, on, want, can)
				}
			}
		}
	}
}

// P6.4: what was set, or reset, is told so, and no mode changes another one, but of Mouse and of Coding.
func TestWhatWasSetIsTold(t *testing.T) {
	group := func(o mode) int {
		switch {
		case o.alone.Mouse != 0:
			return -1
		case o.alone.Coding != 0:
			return -2
		}
		return o.n
	}
	for _, m := range places() {
		for _, o := range all() {
			for _, on := range []bool{true, false} {
				now, _ := Set(m, o.private, o.n, on)
				want := 2
				if on {
					want = 1
				}
				checkGet(t, now, o.private, o.n, want)
				if now.Other != m.Other || May(m) && !May(now) {
					t.Errorf("Set(%+v, %v, %d, %v) = %+v", m, o.private, o.n, on, now)
				}
				for _, p := range all() {
					if p.n == o.n && p.private == o.private {
						continue
					}
					want := Get(m, p.private, p.n)
					if on && group(p) == group(o) {
						want = 2
					}
					checkGet(t, now, p.private, p.n, want)
				}
			}
		}
	}
}

// P6.4: along long rows of steps the modes are as what is written out has them, and one of the mouse's modes, and of its codings, is set at most.
func TestLongRowsOfSteps(t *testing.T) {
	r := rand.New(rand.NewSource(6))
	near := []int{0, 3, 4, 7, 8, 12, 25, 1001, 2005, -1}
	for _, o := range all() {
		near = append(near, o.n)
	}
	for range 50 {
		var m, p api.Modes
		for range 300 {
			private, n, on := r.Intn(4) > 0, near[r.Intn(len(near))], r.Intn(3) > 0
			var can, want bool
			m, can = Set(m, private, n, on)
			p, want = plainSet(p, private, n, on)
			if m != p || can != want || !May(m) {
				t.Fatalf("mode %d: %+v, %v, not %+v, %v", n, m, can, p, want)
			}
			for _, group := range [][]mode{mice(), codings()} {
				set := 0
				for _, o := range group {
					if Get(m, true, o.n) == 1 {
						set++
					}
				}
				if set > 1 {
					t.Fatalf("%+v: %d of one kind are set", m, set)
				}
			}
		}
	}
}

// R4: nothing is kept from call to call.
func TestNothingIsKept(t *testing.T) {
	first, _ := Set(api.Modes{}, true, 1000, true)
	kept := first
	Set(first, true, 1003, true)
	Set(first, true, 1000, false)
	Set(first, false, 2, true)
	if first != kept {
		t.Errorf("what was told changed: %+v", first)
	}
	checkGet(t, first, true, 1000, 1)
	checkGet(t, api.Modes{}, true, 1000, 2)
	checkSet(t, api.Modes{}, true, 1006, true, api.Modes{Coding: 1006}, true)
}

// P1: every call ends, and none panics, at whatever it is given.
func TestNoCallPanics(t *testing.T) {
	wild := []int{math.MinInt, math.MinInt32, -1, 0, 1, 2, 3, 9, 1000, 1006, 2004, math.MaxInt32, math.MaxInt}
	for _, mouse := range wild {
		for _, coding := range wild {
			for _, other := range wild {
				m := api.Modes{Mouse: mouse, Coding: coding, Other: other}
				May(m)
				for _, n := range wild {
					for _, private := range []bool{true, false} {
						Get(m, private, n)
						Set(m, private, n, true)
						Set(m, private, n, false)
					}
				}
			}
		}
	}
}
