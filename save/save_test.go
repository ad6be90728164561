package save

import (
	"fmt"
	"math"
	"math/rand"
	"slices"
	"testing"

	"clavier/api"
)

// The calls are as the chapter has them, and what is saved is an array.
var (
	_ func(Saved, api.Modes, []int) Saved     = Save
	_ func(Saved, api.Modes, []int) api.Modes = Restore
	_ [12]byte                                = Saved{}
)

// mode is a private mode that may be set: its number, zero Modes in which it is set, and how it is in Modes.
type mode struct {
	n     int
	alone api.Modes
	isSet func(m api.Modes) bool
}

// own are the private modes that may be set, each at its place.
func own() [12]mode {
	return [12]mode{
		{1, api.Modes{Cursor: true}, func(m api.Modes) bool { return m.Cursor }},
		{9, api.Modes{Mouse: 9}, func(m api.Modes) bool { return m.Mouse == 9 }},
		{66, api.Modes{Keypad: true}, func(m api.Modes) bool { return m.Keypad }},
		{67, api.Modes{Back: true}, func(m api.Modes) bool { return m.Back }},
		{1000, api.Modes{Mouse: 1000}, func(m api.Modes) bool { return m.Mouse == 1000 }},
		{1002, api.Modes{Mouse: 1002}, func(m api.Modes) bool { return m.Mouse == 1002 }},
		{1003, api.Modes{Mouse: 1003}, func(m api.Modes) bool { return m.Mouse == 1003 }},
		{1004, api.Modes{Focus: true}, func(m api.Modes) bool { return m.Focus }},
		{1005, api.Modes{Coding: 1005}, func(m api.Modes) bool { return m.Coding == 1005 }},
		{1006, api.Modes{Coding: 1006}, func(m api.Modes) bool { return m.Coding == 1006 }},
		{1015, api.Modes{Coding: 1015}, func(m api.Modes) bool { return m.Coding == 1015 }},
		{2004, api.Modes{Paste: true}, func(m api.Modes) bool { return m.Paste }},
	}
}

func ownNumbers() []int {
	var l []int
	for _, o := range own() {
		l = append(l, o.n)
	}
	return l
}

// flags are the own modes with a field of their own, choices those that take each other's place.
func flags() []int     { return []int{1, 66, 67, 1004, 2004} }
func choices() [][]int { return [][]int{{9, 1000, 1002, 1003}, {1005, 1006, 1015}} }

// change is m, with that own mode set, or reset, written out.
func change(m api.Modes, n int, on bool) api.Modes {
	only := func(choice int) int {
		if on {
			return n
		}
		if choice == n {
			return 0
		}
		return choice
	}
	switch n {
	case 1:
		m.Cursor = on
	case 66:
		m.Keypad = on
	case 67:
		m.Back = on
	case 1004:
		m.Focus = on
	case 2004:
		m.Paste = on
	case 9, 1000, 1002, 1003:
		m.Mouse = only(m.Mouse)
	case 1005, 1006, 1015:
		m.Coding = only(m.Coding)
	}
	return m
}

// plainSave is Save, written out.
func plainSave(s Saved, m api.Modes, nums []int) Saved {
	for _, n := range nums {
		for place, o := range own() {
			if o.n != n {
				continue
			}
			if o.isSet(m) {
				s[place] = 1
			} else {
				s[place] = 2
			}
		}
	}
	return s
}

// plainRestore is Restore, written out.
func plainRestore(s Saved, m api.Modes, nums []int) api.Modes {
	for _, n := range nums {
		for place, o := range own() {
			if o.n == n && s[place] == 1 {
				m = change(m, n, true)
			}
			if o.n == n && s[place] == 2 {
				m = change(m, n, false)
			}
		}
	}
	return m
}

// full has all set that can be set at once.
func full() api.Modes {
	return api.Modes{Cursor: true, Keypad: true, Back: true, Focus: true, Paste: true, Lock: true, Line: true, Mouse: 1002, Coding: 1015, Other: 2}
}

// wrongs are Modes that may not be.
func wrongs() []api.Modes {
	wrong := full()
	wrong.Mouse, wrong.Coding, wrong.Other = 1001, -1006, 77
	return []api.Modes{wrong,
		{Mouse: -1}, {Mouse: 1}, {Mouse: 66}, {Mouse: 1006, Coding: 1003}, {Coding: 1000, Other: 3}, {Coding: 2004, Focus: true}, {Mouse: 1004},
		{Mouse: math.MinInt, Coding: math.MaxInt, Other: math.MinInt}, {Mouse: math.MaxInt, Coding: math.MinInt, Other: math.MaxInt},
		{Mouse: 1000 + 1<<32, Coding: 1006 + 1<<32}, {Mouse: 9 + 256, Coding: 1006 - 65536},
	}
}

// several are Modes of all kinds: bare and full ones, ones with each mode alone, and ones that may not be.
func several() []api.Modes {
	l := append(wrongs(), api.Modes{}, api.Modes{Other: 1}, api.Modes{Lock: true}, api.Modes{Line: true}, full())
	for _, o := range own() {
		l = append(l, o.alone)
	}
	return l
}

// each tells all private Modes that may be, with what isn't private as it is in base.
func each(base api.Modes, tell func(m api.Modes)) {
	for set := range 32 {
		for _, mouse := range []int{0, 9, 1000, 1002, 1003} {
			for _, coding := range []int{0, 1005, 1006, 1015} {
				m := base
				for i, n := range flags() {
					m = change(m, n, set>>i&1 == 1)
				}
				m.Mouse, m.Coding = mouse, coding
				tell(m)
			}
		}
	}
}

// strangers are numbers that are no private mode that may be set: all that are near one's, fixed ones, those that aren't
// private, 0, negative ones, and very great ones, among them those that would be a mode's if they wrapped round.
func strangers() []int {
	l := []int{
		math.MinInt, math.MinInt + 1, math.MinInt32, -1 << 32, 0, 2, 20, 4, 12, 7, 25,
		65535, 65536, 70000, 1114111, 1114112, 1 << 32, math.MaxInt32, math.MaxInt - 1, math.MaxInt,
	}
	for n := -2100; n <= 2100; n++ {
		l = append(l, n)
	}
	for _, n := range ownNumbers() {
		l = append(l, n-1, n+1, -n, n+256, n+1<<16, n-1<<16, n+1<<31, n-1<<31, n+1<<32, n-1<<32, n+1<<62, math.MinInt+n, math.MaxInt-n)
	}
	known := ownNumbers()
	return slices.DeleteFunc(l, func(n int) bool { return slices.Contains(known, n) })
}

// filled is what was saved, with that at each place.
func filled(how byte) Saved {
	var s Saved
	for place := range s {
		s[place] = how
	}
	return s
}

// with is s, with that at one place.
func with(s Saved, place int, how byte) Saved {
	s[place] = how
	return s
}

// asSaved is how Save tells whether a mode is set.
func asSaved(isSet bool) byte {
	if isSet {
		return 1
	}
	return 2
}

// shuffled are the own numbers in turns of all kinds: rising, falling, each one first, each one last, and many by chance of a fixed seed.
func shuffled() [][]int {
	rising := ownNumbers()
	falling := slices.Clone(rising)
	slices.Reverse(falling)
	l := [][]int{rising, falling}
	for i := range rising {
		l = append(l, slices.Concat(rising[i:], rising[:i]), slices.Concat(falling[i:], falling[:i]))
	}
	chance := rand.New(rand.NewSource(7))
	for range 40 {
		turn := slices.Clone(rising)
		chance.Shuffle(len(turn), func(i, j int) { turn[i], turn[j] = turn[j], turn[i] })
		l = append(l, turn)
	}
	return l
}

// some is of a long list its two ends.
func some(nums []int) string {
	if len(nums) <= 30 {
		return fmt.Sprint(nums)
	}
	return fmt.Sprint(nums[:15], " .. ", nums[len(nums)-15:])
}

func checkSave(t *testing.T, s Saved, m api.Modes, nums []int, want Saved) {
	t.Helper()
	if got := Save(s, m, nums); got != want {
		t.Errorf("Save(%v, %+v, %s) = %v, not %v", s, m, some(nums), got, want)
	}
}

func checkRestore(t *testing.T, s Saved, m api.Modes, nums []int, want api.Modes) {
	t.Helper()
	if got := Restore(s, m, nums); got != want {
		t.Errorf("Restore(%v, %+v, %s) = %+v, not %+v", s, m, some(nums), got, want)
	}
}

// The chapter's example: 2004 set, saved, reset, restored: it is set.
func TestExample(t *testing.T) {
	s := Save(Saved{}, api.Modes{Paste: true}, []int{2004})
	if want := (Saved{11: 1}); s != want {
		t.Errorf("saved: %v", s)
	}
	checkRestore(t, s, api.Modes{}, []int{2004}, api.Modes{Paste: true})
}

// P7.1: each mode is saved at its place, when it is set and when it isn't, over whatever stood there, and nothing else is.
func TestEachModeIsSaved(t *testing.T) {
	for place, o := range own() {
		checkSave(t, Saved{}, o.alone, []int{o.n}, with(Saved{}, place, 1))
		checkSave(t, Saved{}, api.Modes{}, []int{o.n}, with(Saved{}, place, 2))
		for _, m := range several() {
			for _, how := range []byte{0, 1, 2, 3, 77, 255} {
				checkSave(t, filled(how), m, []int{o.n}, with(filled(how), place, asSaved(o.isSet(m))))
			}
		}
	}
}

// P7.1: each mode is set, if 1 is at its place, and reset, if 2 is, and nothing else is, whatever stands at the other places.
func TestEachModeIsRestored(t *testing.T) {
	for place, o := range own() {
		checkRestore(t, with(Saved{}, place, 1), api.Modes{}, []int{o.n}, o.alone)
		checkRestore(t, with(Saved{}, place, 1), o.alone, []int{o.n}, o.alone)
		checkRestore(t, with(Saved{}, place, 2), o.alone, []int{o.n}, api.Modes{})
		checkRestore(t, with(Saved{}, place, 2), api.Modes{}, []int{o.n}, api.Modes{})
		for _, m := range several() {
			for _, how := range []byte{0, 1, 2, 3, 255} {
				checkRestore(t, with(filled(how), place, 1), m, []int{o.n}, change(m, o.n, true))
				checkRestore(t, with(filled(how), place, 2), m, []int{o.n}, change(m, o.n, false))
			}
		}
	}
}

// P7.2: each mode, saved when it is set and when it isn't, and restored over the other one, in Modes of all kinds.
func TestEachModeThereAndBack(t *testing.T) {
	for place, o := range own() {
		checkRestore(t, Save(Saved{}, o.alone, []int{o.n}), api.Modes{}, []int{o.n}, o.alone)
		checkRestore(t, Save(Saved{}, api.Modes{}, []int{o.n}), o.alone, []int{o.n}, api.Modes{})
		for _, base := range several() {
			on, off := change(base, o.n, true), change(base, o.n, false)
			checkRestore(t, Save(with(Saved{}, place, 2), on, []int{o.n}), off, []int{o.n}, on)
			// The mode isn't set any more, but a choice that it took the place of, and that wasn't saved, doesn't come back.
			checkRestore(t, Save(with(Saved{}, place, 1), off, []int{o.n}), on, []int{o.n}, change(on, o.n, false))
		}
	}
}

// P7.2: a flag that was saved is as it was, whatever else was set meanwhile, and all else is as it was set meanwhile.
func TestEachFlagWhateverWasSetMeanwhile(t *testing.T) {
	for _, n := range flags() {
		for _, was := range []bool{true, false} {
			s := Save(filled(2), change(full(), n, was), []int{n})
			each(api.Modes{Lock: true, Other: 1}, func(m api.Modes) {
				checkRestore(t, s, m, []int{n}, change(m, n, was))
			})
		}
	}
}

// P7.2: all of them together, in whatever turn they are saved and restored, over each of the Modes that may be.
func TestAllTogether(t *testing.T) {
	meanwhile := slices.Concat(several(), []api.Modes{{Mouse: 9, Coding: 1005}, {Mouse: 1003, Coding: 1006, Paste: true}})
	turns := shuffled()
	next := 0
	each(api.Modes{}, func(was api.Modes) {
		want := plainSave(Saved{}, was, ownNumbers())
		for _, m := range meanwhile {
			next++
			saved := turns[next%len(turns)]
			s := Save(filled(byte(next)), was, saved)
			if s != want {
				t.Fatalf("Save(%v, %+v, %v) = %v, not %v", filled(byte(next)), was, saved, s, want)
			}
			back := was
			back.Lock, back.Line, back.Other = m.Lock, m.Line, m.Other
			// A number that is no mode of the mouse can't be reset: it stays, if nothing takes its place.
			if was.Mouse == 0 && !slices.Contains(choices()[0], m.Mouse) {
				back.Mouse = m.Mouse
			}
			if was.Coding == 0 && !slices.Contains(choices()[1], m.Coding) {
				back.Coding = m.Coding
			}
			for _, step := range []int{1, 7, 31} {
				checkRestore(t, s, m, turns[(next*step+step)%len(turns)], back)
			}
		}
	})
}

// P7.2: all of them together, in each turn, where each one is set alone, over each other one.
func TestAllTogetherInEachTurn(t *testing.T) {
	for _, was := range own() {
		for _, turn := range shuffled() {
			s := Save(Saved{}, was.alone, turn)
			for place, o := range own() {
				if s[place] != asSaved(o.n == was.n) {
					t.Errorf("%d alone, saved as %v: %v", was.n, turn, s)
				}
				checkRestore(t, s, o.alone, turn, was.alone)
			}
			checkRestore(t, s, api.Modes{}, turn, was.alone)
			checkRestore(t, s, full(), turn, func() api.Modes {
				m := was.alone
				m.Lock, m.Line, m.Other = true, true, 2
				return m
			}())
		}
	}
}

// P7.1: of several of the mouse's modes, or of its codings, that were saved as set, the last one that is restored is set.
func TestChoicesThatWereSetInTurn(t *testing.T) {
	for _, group := range choices() {
		var s Saved
		for _, n := range group { // Each one is saved while it is set.
			s = Save(s, change(api.Modes{}, n, true), []int{n})
		}
		for _, first := range group {
			for _, last := range group {
				for _, m := range several() {
					checkRestore(t, s, m, []int{first, last}, change(m, last, true))
					checkRestore(t, s, m, []int{last, first, last}, change(m, last, true))
				}
			}
		}
		falling := slices.Clone(group)
		slices.Reverse(falling)
		checkRestore(t, s, full(), group, change(full(), group[len(group)-1], true))
		checkRestore(t, s, full(), falling, change(full(), group[0], true))
	}
}

// P7.1: of two, one saved as set and one as reset, the one is set and the other isn't, in either turn.
func TestChoicesThatWereSetAndReset(t *testing.T) {
	for _, group := range choices() {
		for _, on := range group {
			for _, off := range group {
				if on == off {
					continue
				}
				s := Save(Saved{}, change(api.Modes{}, on, true), []int{off, on})
				for _, m := range several() {
					checkRestore(t, s, m, []int{on, off}, change(m, on, true))
					checkRestore(t, s, m, []int{off, on}, change(m, on, true))
				}
				// What was reset takes itself away, and no other one.
				checkRestore(t, s, change(full(), off, true), []int{off}, change(change(full(), off, true), off, false))
				checkRestore(t, s, change(full(), on, true), []int{off}, change(full(), on, true))
			}
		}
	}
}

// P7.1: the mouse's modes and its codings, restored in turn, written out.
func TestChoicesWrittenOut(t *testing.T) {
	both := Saved{1: 1, 4: 1, 5: 2, 6: 1, 8: 1, 9: 2, 10: 1} // 9, 1000 and 1003 set, 1002 reset; 1005 and 1015 set, 1006 reset.
	for _, c := range []struct {
		nums            []int
		mouse, coding   int
		mouse2, coding2 int
	}{
		{[]int{9, 1000, 1002, 1003}, 1002, 1006, 1003, 1006},
		{[]int{1003, 1002, 1000, 9}, 1002, 1006, 9, 1006},
		{[]int{1003, 9, 1000}, 0, 0, 1000, 0},
		{[]int{1002}, 1002, 1006, 0, 1006},
		{[]int{1002}, 1003, 1006, 1003, 1006},
		{[]int{1006}, 1002, 1006, 1002, 0},
		{[]int{1006}, 1002, 1005, 1002, 1005},
		{[]int{1005, 1006, 1015}, 9, 1006, 9, 1015},
		{[]int{1015, 1006, 1005}, 9, 0, 9, 1005},
		{[]int{1015, 1002, 1005, 1000, 1006}, 1002, 0, 1000, 1005},
	} {
		checkRestore(t, both, api.Modes{Mouse: c.mouse, Coding: c.coding, Line: true}, c.nums, api.Modes{Mouse: c.mouse2, Coding: c.coding2, Line: true})
	}
}

// P7.1: numbers that are no private mode that may be set are passed over, alone, and all at once.
func TestStrangers(t *testing.T) {
	all := strangers()
	for _, m := range []api.Modes{{}, full(), wrongs()[0]} {
		for _, how := range []byte{0, 1, 2, 3, 255} {
			for _, n := range all {
				checkSave(t, filled(how), m, []int{n}, filled(how))
				checkRestore(t, filled(how), m, []int{n}, m)
			}
			checkSave(t, filled(how), m, all, filled(how))
			checkRestore(t, filled(how), m, all, m)
		}
	}
}

// P7.1: a stranger's number is passed over where it stands in a field of Modes, too.
func TestStrangersInModes(t *testing.T) {
	for _, n := range strangers() {
		m := api.Modes{Mouse: n, Coding: n, Other: n}
		checkSave(t, filled(9), m, []int{n}, filled(9))
		checkRestore(t, filled(1), m, []int{n}, m)
		checkRestore(t, filled(2), m, []int{n}, m)
	}
}

// P7.1: strangers ahead of own numbers, between them and behind them keep none of these from being saved and restored.
func TestStrangersAmongOwn(t *testing.T) {
	for _, n := range strangers() {
		nums := []int{n, 2004, n, n, 1, 1006, n, 1000, n}
		checkSave(t, filled(5), api.Modes{Paste: true, Mouse: 1000, Lock: true}, nums, Saved{2, 5, 5, 5, 1, 5, 5, 5, 5, 2, 5, 1})
		checkRestore(t, Saved{1, 1, 1, 1, 2, 1, 1, 1, 1, 1, 1, 2}, api.Modes{Paste: true, Mouse: 1000, Lock: true}, nums, api.Modes{Cursor: true, Coding: 1006, Lock: true})
	}
}

// P7.1: modes that aren't private aren't saved, nor restored: the numbers 2 and 20 are no private mode's.
func TestModesThatAreNotPrivate(t *testing.T) {
	m := api.Modes{Lock: true, Line: true, Other: 2}
	nums := slices.Concat([]int{2, 20, 4, 12}, ownNumbers(), []int{2, 20, 4, 12})
	checkSave(t, Saved{}, m, nums, filled(2))
	checkRestore(t, filled(2), m, nums, m)
	checkRestore(t, filled(2), api.Modes{}, nums, api.Modes{})
	checkRestore(t, Saved{1: 2, 4: 2}, m, nums, m)
	want := full()
	want.Mouse, want.Coding, want.Lock, want.Line, want.Other = 1003, 1015, false, false, 0
	checkRestore(t, filled(1), api.Modes{}, nums, want)
}

// P7.1: a number that stands twice is saved, and restored, as if it stood once; of choices, the later place counts.
func TestNumbersThatStandTwice(t *testing.T) {
	for place, o := range own() {
		for _, m := range several() {
			for _, nums := range [][]int{{o.n, o.n}, {o.n, 0, o.n}, {o.n, o.n, o.n, 7, o.n}} {
				checkSave(t, filled(4), m, nums, with(filled(4), place, asSaved(o.isSet(m))))
				checkRestore(t, filled(1), m, nums, change(m, o.n, true))
				checkRestore(t, filled(2), m, nums, change(m, o.n, false))
				checkRestore(t, filled(4), m, nums, m)
			}
		}
	}
	twice := slices.Concat(ownNumbers(), ownNumbers())
	each(api.Modes{}, func(m api.Modes) {
		s := plainSave(Saved{}, m, ownNumbers())
		checkSave(t, Saved{}, m, twice, s)
		checkRestore(t, s, api.Modes{}, twice, m)
	})
	checkRestore(t, filled(1), api.Modes{}, []int{1000, 1003, 1000}, api.Modes{Mouse: 1000})
	checkRestore(t, filled(1), api.Modes{}, []int{1005, 1006, 1006, 1005}, api.Modes{Coding: 1005})
}

// P7.1, R2: no numbers at all, nil or empty, save nothing and restore nothing.
func TestNoNumbers(t *testing.T) {
	for _, nums := range [][]int{nil, {}, []int{1, 9, 2004}[:0]} {
		for _, m := range several() {
			for _, how := range []byte{0, 1, 2, 3, 255} {
				checkSave(t, filled(how), m, nums, filled(how))
				checkRestore(t, filled(how), m, nums, m)
			}
		}
	}
}

// P7.1: what wasn't saved isn't restored: of each set of modes that were saved, these alone are.
func TestWhatWasNotSavedIsNotRestored(t *testing.T) {
	was := api.Modes{Cursor: true, Back: true, Mouse: 1002, Coding: 1006}
	now := api.Modes{Keypad: true, Focus: true, Paste: true, Mouse: 9, Coding: 1015, Lock: true, Other: 1}
	for set := range 1 << 12 {
		var nums []int
		want := now
		for place, o := range own() {
			if set>>place&1 == 1 {
				nums = append(nums, o.n)
				want = change(want, o.n, o.isSet(was))
			}
		}
		s := Save(Saved{}, was, nums)
		for place := range s {
			if saved := set>>place&1 == 1; saved != (s[place] != 0) {
				t.Errorf("Save(%v) = %v", nums, s)
			}
		}
		checkRestore(t, s, now, ownNumbers(), want)
	}
	for _, m := range several() {
		checkRestore(t, Saved{}, m, ownNumbers(), m)
	}
}

// P7.1: what was saved, and isn't among the numbers, isn't restored.
func TestWhatIsNotAskedIsNotRestored(t *testing.T) {
	for set := range 1 << 12 {
		var nums []int
		now := api.Modes{Mouse: 1003, Coding: 1005, Line: true}
		want := now
		for place, o := range own() {
			if set>>place&1 == 1 {
				nums = append(nums, o.n)
				want = change(want, o.n, true)
			}
		}
		checkRestore(t, filled(1), now, nums, want)
	}
}

// P7.1: a place that is neither 1 nor 2 restores nothing, and those that are do, beside it.
func TestPlacesThatAreNeither(t *testing.T) {
	for place, o := range own() {
		for how := range 256 {
			if how == 1 || how == 2 {
				continue
			}
			neither := with(Saved{}, place, byte(how))
			for _, m := range []api.Modes{{}, o.alone, full(), wrongs()[0]} {
				checkRestore(t, neither, m, []int{o.n}, m)
				checkRestore(t, neither, m, ownNumbers(), m)
				checkSave(t, neither, m, []int{o.n}, with(Saved{}, place, asSaved(o.isSet(m))))
				for _, beside := range []byte{1, 2} {
					s := with(filled(beside), place, byte(how))
					checkRestore(t, s, m, []int{o.n}, m)
					checkRestore(t, s, m, ownNumbers(), plainRestore(s, m, ownNumbers()))
				}
			}
		}
	}
	checkRestore(t, Saved{3, 1, 255, 129, 0, 0, 0, 130, 0, 2, 0, 1}, api.Modes{Cursor: true, Coding: 1006}, ownNumbers(), api.Modes{Cursor: true, Mouse: 9, Paste: true})
}

// P7.1: a saved place is written over, whatever stood there.
func TestSavedAgain(t *testing.T) {
	for place, o := range own() {
		for how := range 256 {
			s := filled(byte(how))
			checkSave(t, s, o.alone, []int{o.n}, with(s, place, 1))
			checkSave(t, s, api.Modes{}, []int{o.n}, with(s, place, 2))
		}
	}
}

// P7.1: of Modes that may not be, a number in Mouse or Coding that is no mode of that field's is saved as none that is set, and stays, if it is reset.
func TestModesThatMayNotBe(t *testing.T) {
	wrong := api.Modes{Cursor: true, Focus: true, Line: true, Mouse: 1006, Coding: 1003, Other: 77}
	s := Saved{1, 2, 2, 2, 2, 2, 2, 1, 2, 2, 2, 2}
	checkSave(t, filled(8), wrong, ownNumbers(), s)
	checkRestore(t, filled(2), wrong, ownNumbers(), api.Modes{Line: true, Mouse: 1006, Coding: 1003, Other: 77})
	checkRestore(t, filled(1), wrong, []int{1002, 1005}, api.Modes{Cursor: true, Focus: true, Line: true, Mouse: 1002, Coding: 1005, Other: 77})
	checkRestore(t, s, full(), ownNumbers(), api.Modes{Cursor: true, Focus: true, Lock: true, Line: true, Other: 2})
	for _, m := range wrongs() {
		for _, how := range []byte{0, 1, 2, 3, 255} {
			checkSave(t, filled(how), m, ownNumbers(), plainSave(filled(how), m, ownNumbers()))
			checkRestore(t, filled(how), m, ownNumbers(), plainRestore(filled(how), m, ownNumbers()))
		}
	}
}

// Places are told in turn, and no further than the one who asks goes on.
func TestPlaces(t *testing.T) {
	nums := []int{2004, 25, 9, -1, 9, 1006, 2, 1}
	want := [][2]int{{11, 2004}, {1, 9}, {1, 9}, {9, 1006}, {0, 1}}
	for end := range len(want) + 1 {
		var told [][2]int
		for place, n := range places(nums) {
			if len(told) == end {
				break
			}
			told = append(told, [2]int{place, n})
		}
		if !slices.Equal(told, want[:end]) {
			t.Errorf("up to %d: %v", end, told)
		}
	}
}

// R3: what is handed in stays as it was, with what lies behind the numbers' end.
func TestWhatIsHandedInStays(t *testing.T) {
	under := []int{2004, 9, 1000, 1000, -1, 1006, 66, 5, 1, 67}
	was := slices.Clone(under)
	nums := under[:7]
	s, m := Saved{1, 2, 3, 1, 2, 0, 1, 2, 1, 2, 1, 2}, full()
	keptSaved, keptModes := s, m
	for range 3 {
		first, second := Save(s, m, nums), Restore(s, m, nums)
		if first == s || second == m {
			t.Error("nothing was saved, or restored")
		}
		if s != keptSaved || m != keptModes || !slices.Equal(under, was) {
			t.Errorf("changed: %v, %+v, %v", s, m, under)
		}
		first[0], second.Mouse = 99, 99 // What is told is the caller's own.
		if again := Save(s, m, nums); again != plainSave(s, m, nums) {
			t.Errorf("saved then: %v", again)
		}
		if again := Restore(s, m, nums); again != plainRestore(s, m, nums) {
			t.Errorf("restored then: %+v", again)
		}
	}
}

// R4: nothing is kept from call to call: what one call saved is not what another one restores.
func TestNothingIsKept(t *testing.T) {
	Save(filled(1), full(), ownNumbers())
	checkRestore(t, Saved{}, api.Modes{}, ownNumbers(), api.Modes{})
	Restore(filled(2), full(), ownNumbers())
	checkSave(t, Saved{}, full(), nil, Saved{})
	for range 50 { // An order that hung on chance would show.
		checkSave(t, Saved{}, full(), ownNumbers(), Saved{1, 2, 1, 1, 2, 1, 2, 1, 2, 2, 1, 1})
	}
}

// P1: a very long list of numbers ends, and its last ones count.
func TestLongLists(t *testing.T) {
	nums := slices.Repeat([]int{-1, 9, 1000, 1003, 0, 1015}, 50000)
	nums = append(nums, 1006, 1002, 2004)
	checkSave(t, Saved{}, full(), nums, Saved{1: 2, 4: 2, 5: 1, 6: 2, 9: 2, 10: 1, 11: 1})
	checkRestore(t, filled(1), api.Modes{}, nums, api.Modes{Mouse: 1002, Coding: 1006, Paste: true})
}

// P7.1, P7.2: long rows of saving, setting and restoring, of a fixed seed, against both written out.
func TestAgainstPlain(t *testing.T) {
	chance := rand.New(rand.NewSource(11))
	numbers := append(slices.Repeat(ownNumbers(), 3), 0, 2, 7, 20, 25, 1001, -9, 1<<32+9)
	some := func() []int {
		nums := make([]int, chance.Intn(9))
		for i := range nums {
			nums[i] = numbers[chance.Intn(len(numbers))]
		}
		return nums
	}
	s, m := Saved{}, api.Modes{}
	for range 100000 {
		nums := some()
		switch chance.Intn(4) {
		case 0:
			checkSave(t, s, m, nums, plainSave(s, m, nums))
			s = Save(s, m, nums)
		case 1:
			checkRestore(t, s, m, nums, plainRestore(s, m, nums))
			m = Restore(s, m, nums)
		case 2:
			for _, n := range nums {
				m = change(m, n, chance.Intn(2) == 0)
			}
		case 3:
			s[chance.Intn(len(s))] = byte(chance.Intn(5))
		}
		if t.Failed() {
			return
		}
	}
}
