package track

import (
	"math"
	"slices"
	"testing"

	"clavier/api"
)

// The calls are as the chapter has them, and states can be compared.
var (
	_ func(api.Mouse) bool                      = May
	_ func(int, State, api.Mouse) (State, bool) = Tell
	_                                           = State{X: 1, Y: 2} == State{1, 2}
)

// told are the buttons that a mode tells, by the events' types.
type told map[int][]int

// tells is what each mode tells, by its number, written out: of all buttons, or of those that can be held.
var (
	all   = []int{1, 2, 3, 4, 5, 6, 7, 8, 9, 10, 11}
	held  = []int{1, 2, 3, 8, 9, 10, 11}
	tells = map[int]told{
		9:    {api.Press: {1, 2, 3}},
		1000: {api.Press: all, api.Release: held},
		1002: {api.Press: all, api.Release: held, api.Motion: held},
		1003: {api.Press: all, api.Release: held, api.Motion: {0, 1, 2, 3, 8, 9, 10, 11}},
	}
)

// modeNumbers are the modes that tell anything, rising.
func modeNumbers() []int {
	return []int{9, 1000, 1002, 1003}
}

// mayButtons tells whether the button and the type of an event may be: the greatest mode tells all of these.
func mayButtons(button, kind int) bool {
	return slices.Contains(tells[1003][kind], button)
}

// mayRest tells whether all else of an event may be.
func mayRest(e api.Mouse) bool {
	return e.X > 0 && e.X < 65536 && e.Y > 0 && e.Y < 65536 && e.Mods > -1 && e.Mods < 256
}

// isTold tells whether an event is told by a mode, by the chapter's words.
func isTold(mode int, s State, e api.Mouse) bool {
	if !mayRest(e) || !mayButtons(e.Button, e.Type) || !slices.Contains(tells[mode][e.Type], e.Button) {
		return false
	}
	return e.Type != api.Motion || e.X != s.X || e.Y != s.Y
}

// checkMay ends the test at the first answer that isn't as it ought to be.
func checkMay(t *testing.T, e api.Mouse, want bool) {
	t.Helper()
	if got := May(e); got != want {
		t.Fatalf("May(%+v) = %v", e, got)
	}
}

// checkTold ends the test, if an event isn't told, or not as it ought to be.
func checkTold(t *testing.T, mode int, s State, e api.Mouse) {
	t.Helper()
	if cell, ok := Tell(mode, s, e); !ok || cell != (State{e.X, e.Y}) {
		t.Fatalf("Tell(%d, %+v, %+v) = %+v, %v", mode, s, e, cell, ok)
	}
}

// checkUntold ends the test, if an event is told, or changes the state.
func checkUntold(t *testing.T, mode int, s State, e api.Mouse) {
	t.Helper()
	if cell, ok := Tell(mode, s, e); ok || cell != s {
		t.Fatalf("Tell(%d, %+v, %+v) = %+v, %v", mode, s, e, cell, ok)
	}
}

// check holds an event by a mode against the chapter.
func check(t *testing.T, mode int, s State, e api.Mouse) {
	t.Helper()
	if isTold(mode, s, e) {
		checkTold(t, mode, s, e)
		return
	}
	checkUntold(t, mode, s, e)
}

// wraps are numbers that would be n, if only their last bits were told.
func wraps(n int) []int {
	l := []int{n + math.MinInt}
	for _, bits := range []int{8, 16, 31, 32, 33, 62} {
		l = append(l, n+1<<bits, n-1<<bits)
	}
	return l
}

// ends are very small and very great numbers.
func ends() []int {
	return []int{
		math.MinInt, math.MinInt + 1, math.MinInt32, -65536, -65535, -256, -255, -2, -1,
		65537, 131071, math.MaxInt32, math.MaxInt32 + 1, math.MaxUint32, math.MaxUint32 + 1, math.MaxInt - 1, math.MaxInt,
	}
}

// wrongTypes are numbers that are no type of a mouse's events; a repeat is one of them.
func wrongTypes() []int {
	l := append(ends(), 0, api.Repeat, 5, 6, 7, 8, 255, 256, 257, 259, 260)
	for _, kind := range []int{api.Press, api.Release, api.Motion} {
		l = append(l, wraps(kind)...)
		l = append(l, -kind)
	}
	return l
}

// wrongModes are numbers that are no mode: those beside each, codings, and numbers that would wrap round onto one.
func wrongModes() []int {
	l := append(ends(), 0, 1, 2, 3, 1001, 1004, 1005, 1006, 1015, 2004)
	for _, mode := range modeNumbers() {
		l = append(l, -mode)
		l = append(l, wraps(mode)...)
		for _, n := range []int{mode - 1, mode + 1} {
			if !slices.Contains(modeNumbers(), n) {
				l = append(l, n)
			}
		}
	}
	return l
}

// buttons are all numbers of buttons, and some beside these.
func buttons() []int {
	l := append(ends(), 255, 256)
	for button := -12; button <= 24; button++ {
		l = append(l, button)
	}
	for button := range 12 {
		l = append(l, wraps(button)...)
	}
	return l
}

// events are all buttons and types that may be, in one cell.
func events(x, y int) []api.Mouse {
	var l []api.Mouse
	for _, kind := range []int{api.Press, api.Release, api.Motion} {
		for button := range 12 {
			if mayButtons(button, kind) {
				l = append(l, api.Mouse{Button: button, Type: kind, X: x, Y: y})
			}
		}
	}
	return l
}

// states are a cell itself, what differs from it in X alone, in Y alone and in both, and the zero state.
func states(x, y int) []State {
	return []State{
		{x, y},
		{x + 1, y}, {x - 1, y}, {-x, y}, {0, y}, {x + 65536, y}, {x + 1<<32, y},
		{x, y + 1}, {x, y - 1}, {x, -y}, {x, 0}, {x, y + 65536}, {x, y - 1<<32},
		{x + 1, y + 1}, {x - 1, y + 1}, {y, x}, {math.MinInt, math.MaxInt},
		{},
	}
}

// P15.1: events, and whether they may be, written out.
func TestMayRows(t *testing.T) {
	for _, r := range []struct {
		e    api.Mouse
		want bool
	}{
		{api.Mouse{Button: 1, Type: api.Press, X: 1, Y: 1}, true},
		{api.Mouse{Button: 0, Type: api.Press, X: 1, Y: 1}, false},
		{api.Mouse{Button: 4, Type: api.Press, X: 1, Y: 1}, true},
		{api.Mouse{Button: 7, Type: api.Press, X: 1, Y: 1}, true},
		{api.Mouse{Button: 11, Type: api.Press, X: 1, Y: 1}, true},
		{api.Mouse{Button: 12, Type: api.Press, X: 1, Y: 1}, false},
		{api.Mouse{Button: 0, Type: api.Release, X: 1, Y: 1}, false},
		{api.Mouse{Button: 3, Type: api.Release, X: 1, Y: 1}, true},
		{api.Mouse{Button: 4, Type: api.Release, X: 1, Y: 1}, false},
		{api.Mouse{Button: 7, Type: api.Release, X: 1, Y: 1}, false},
		{api.Mouse{Button: 8, Type: api.Release, X: 1, Y: 1}, true},
		{api.Mouse{Button: 0, Type: api.Motion, X: 1, Y: 1}, true},
		{api.Mouse{Button: 3, Type: api.Motion, X: 1, Y: 1}, true},
		{api.Mouse{Button: 4, Type: api.Motion, X: 1, Y: 1}, false},
		{api.Mouse{Button: 11, Type: api.Motion, X: 1, Y: 1}, true},
		{api.Mouse{Button: 12, Type: api.Motion, X: 1, Y: 1}, false},
		{api.Mouse{Button: 1, Type: api.Repeat, X: 1, Y: 1}, false},
		{api.Mouse{Button: 0, Type: api.Repeat, X: 1, Y: 1}, false},
		{api.Mouse{Button: 1, Type: api.Press, X: 65535, Y: 65535, Mods: 255}, true},
		{api.Mouse{Button: 1, Type: api.Press, X: 0, Y: 1}, false},
		{api.Mouse{Button: 1, Type: api.Press, X: 1, Y: 0}, false},
		{api.Mouse{Button: 1, Type: api.Press, X: 65536, Y: 1}, false},
		{api.Mouse{Button: 1, Type: api.Press, X: 1, Y: 65536}, false},
		{api.Mouse{Button: 1, Type: api.Press, X: 1, Y: 1, Mods: 256}, false},
		{api.Mouse{Button: 1, Type: api.Press, X: 1, Y: 1, Mods: -1}, false},
		{api.Mouse{}, false},
	} {
		checkMay(t, r.e, r.want)
	}
}

// P15.1: each button, and numbers beside these, with each type, and with numbers that are none.
func TestMayOfEachButton(t *testing.T) {
	for _, button := range buttons() {
		for _, kind := range []int{api.Press, api.Release, api.Motion} {
			checkMay(t, api.Mouse{Button: button, Type: kind, X: 1, Y: 1}, mayButtons(button, kind))
			checkMay(t, api.Mouse{Button: button, Type: kind, X: 65535, Y: 300, Mods: 255}, mayButtons(button, kind))
		}
		for _, kind := range wrongTypes() {
			checkMay(t, api.Mouse{Button: button, Type: kind, X: 1, Y: 1}, false)
		}
	}
}

// P15.1: X and Y, each of all numbers that may be, of those beside these, and of those that would wrap round onto one.
func TestMayOfEachCell(t *testing.T) {
	numbers := append(ends(), wraps(1)...)
	numbers = append(numbers, wraps(65535)...)
	for n := -1000; n <= 70000; n++ {
		numbers = append(numbers, n)
	}
	for i, n := range numbers {
		want := n >= 1 && n <= 65535
		l := events(n, 1)
		for _, e := range []api.Mouse{l[i%len(l)], l[0]} {
			checkMay(t, e, want)
			e.X, e.Y = 1, n
			checkMay(t, e, want)
			e.X, e.Y = 65535, n
			checkMay(t, e, want)
			e.X, e.Y = n, n
			checkMay(t, e, want)
			e.X, e.Y = n, 65536
			checkMay(t, e, false)
			e.X, e.Y = 0, n
			checkMay(t, e, false)
		}
	}
}

// P15.1: modifiers, all of them, and numbers beside these.
func TestMayOfEachModifier(t *testing.T) {
	numbers := append(ends(), wraps(0)...)
	numbers = append(numbers, wraps(255)...)
	for n := -600; n <= 600; n++ {
		numbers = append(numbers, n)
	}
	for _, e := range events(7, 8) {
		for _, e.Mods = range numbers {
			checkMay(t, e, e.Mods >= 0 && e.Mods <= 255)
		}
	}
}

// P15.2: modes, and what they tell from a state, written out.
func TestTellRows(t *testing.T) {
	at := State{5, 6}
	for _, r := range []struct {
		mode         int
		s            State
		button, kind int
		want         bool
	}{
		{9, State{}, 1, api.Press, true},
		{9, State{}, 3, api.Press, true},
		{9, State{}, 4, api.Press, false},
		{9, State{}, 8, api.Press, false},
		{9, State{}, 1, api.Release, false},
		{9, State{}, 1, api.Motion, false},
		{9, State{}, 0, api.Motion, false},
		{9, at, 2, api.Press, true},
		{1000, State{}, 1, api.Press, true},
		{1000, State{}, 5, api.Press, true},
		{1000, State{}, 11, api.Press, true},
		{1000, State{}, 3, api.Release, true},
		{1000, State{}, 5, api.Release, false},
		{1000, State{}, 1, api.Motion, false},
		{1000, State{}, 0, api.Motion, false},
		{1000, at, 1, api.Press, true},
		{1000, at, 1, api.Release, true},
		{1002, State{}, 7, api.Press, true},
		{1002, State{}, 9, api.Release, true},
		{1002, State{}, 1, api.Motion, true},
		{1002, State{}, 11, api.Motion, true},
		{1002, State{}, 0, api.Motion, false},
		{1002, at, 1, api.Motion, false},
		{1002, State{5, 7}, 1, api.Motion, true},
		{1002, State{6, 6}, 1, api.Motion, true},
		{1002, State{6, 5}, 1, api.Motion, true},
		{1002, at, 1, api.Press, true},
		{1002, at, 1, api.Release, true},
		{1003, State{}, 0, api.Motion, true},
		{1003, at, 0, api.Motion, false},
		{1003, at, 3, api.Motion, false},
		{1003, State{5, 7}, 0, api.Motion, true},
		{1003, State{6, 6}, 0, api.Motion, true},
		{1003, at, 4, api.Press, true},
		{1003, at, 8, api.Release, true},
		{0, State{}, 1, api.Press, false},
		{1001, State{}, 1, api.Press, false},
		{1006, State{}, 1, api.Press, false},
		{-1003, State{}, 1, api.Press, false},
	} {
		e := api.Mouse{Button: r.button, Type: r.kind, X: 5, Y: 6}
		if r.want {
			checkTold(t, r.mode, r.s, e)
			continue
		}
		checkUntold(t, r.mode, r.s, e)
	}
}

// P15.2: each button with each type by each mode, from the same cell, from others, and from the zero state.
func TestTellEachEvent(t *testing.T) {
	for _, cell := range []State{{1, 1}, {65535, 65535}, {3, 400}, {65535, 1}} {
		for _, s := range states(cell.X, cell.Y) {
			for _, mode := range append(modeNumbers(), 0, 8, 10, 999, 1001, 1004, -9, -1000) {
				for button := -3; button <= 15; button++ {
					for kind := -1; kind <= 6; kind++ {
						check(t, mode, s, api.Mouse{Button: button, Type: kind, X: cell.X, Y: cell.Y})
						check(t, mode, s, api.Mouse{Button: button, Type: kind, X: cell.X, Y: cell.Y, Mods: 255})
					}
				}
			}
		}
	}
}

// P15.2: a number that is no mode tells nothing, however near to one it is.
func TestNumbersThatAreNoMode(t *testing.T) {
	numbers := wrongModes()
	for n := -2100; n <= 2100; n++ {
		if !slices.Contains(modeNumbers(), n) {
			numbers = append(numbers, n)
		}
	}
	for _, mode := range numbers {
		for _, e := range events(5, 6) {
			checkUntold(t, mode, State{}, e)
			checkUntold(t, mode, State{5, 7}, e)
			checkUntold(t, mode, State{5, 6}, e)
		}
	}
}

// P15.2: modifiers change nothing of what is told.
func TestModifiersChangeNothing(t *testing.T) {
	for _, mode := range modeNumbers() {
		for _, e := range events(5, 6) {
			for e.Mods = range 256 {
				check(t, mode, State{5, 6}, e)
				check(t, mode, State{6, 6}, e)
			}
		}
	}
}

// P15.2: events that may not be, for each reason, aren't told by any mode, and leave each state as it is.
func TestEventsThatMayNotBe(t *testing.T) {
	for _, wrong := range []func(e *api.Mouse){
		func(e *api.Mouse) { e.X = 0 },
		func(e *api.Mouse) { e.X = -e.X },
		func(e *api.Mouse) { e.X = 65536 },
		func(e *api.Mouse) { e.X += 65536 },
		func(e *api.Mouse) { e.X += 1 << 32 },
		func(e *api.Mouse) { e.X = math.MinInt },
		func(e *api.Mouse) { e.X = math.MaxInt },
		func(e *api.Mouse) { e.Y = 0 },
		func(e *api.Mouse) { e.Y = -e.Y },
		func(e *api.Mouse) { e.Y = 65536 },
		func(e *api.Mouse) { e.Y += 65536 },
		func(e *api.Mouse) { e.Y += 1 << 32 },
		func(e *api.Mouse) { e.Y = math.MinInt },
		func(e *api.Mouse) { e.Y = math.MaxInt },
		func(e *api.Mouse) { e.Mods = -1 },
		func(e *api.Mouse) { e.Mods = 256 },
		func(e *api.Mouse) { e.Mods = math.MinInt },
		func(e *api.Mouse) { e.Mods = math.MaxInt },
		func(e *api.Mouse) { e.Type = 0 },
		func(e *api.Mouse) { e.Type = api.Repeat },
		func(e *api.Mouse) { e.Type = 5 },
		func(e *api.Mouse) { e.Type = -e.Type },
		func(e *api.Mouse) { e.Type += 1 << 32 },
		func(e *api.Mouse) { e.Button = -1 },
		func(e *api.Mouse) { e.Button = 12 },
		func(e *api.Mouse) { e.Button += 256 },
		func(e *api.Mouse) { e.Button += 1 << 32 },
		func(e *api.Mouse) { e.Button, e.Type = 0, api.Press },
		func(e *api.Mouse) { e.Button, e.Type = 0, api.Release },
		func(e *api.Mouse) { e.Button, e.Type = 4, api.Release },
		func(e *api.Mouse) { e.Button, e.Type = 7, api.Release },
		func(e *api.Mouse) { e.Button, e.Type = 4, api.Motion },
		func(e *api.Mouse) { e.Button, e.Type = 7, api.Motion },
	} {
		for _, e := range events(5, 6) {
			wrong(&e)
			checkMay(t, e, false)
			for _, mode := range append(modeNumbers(), 0, 1001, -9) {
				for _, s := range append(states(5, 6), State{e.X, e.Y}) {
					checkUntold(t, mode, s, e)
				}
			}
		}
	}
}

// P15.3: what a mode tells, each greater one tells, from the same state, and with the same state behind it.
func TestGreaterModesTellMore(t *testing.T) {
	modes := modeNumbers()
	counts := make([]int, len(modes))
	for _, s := range states(5, 6) {
		for button := -1; button <= 12; button++ {
			for kind := range 6 {
				e := api.Mouse{Button: button, Type: kind, X: 5, Y: 6}
				was := false
				for i, mode := range modes {
					cell, ok := Tell(mode, s, e)
					if was && !ok || ok && cell != (State{5, 6}) {
						t.Fatalf("Tell(%d, %+v, %+v) = %+v, %v, though a lesser mode tells it", mode, s, e, cell, ok)
					}
					if was = ok; ok {
						counts[i]++
					}
				}
			}
		}
	}
	if !slices.IsSorted(counts) || len(slices.Compact(counts)) != len(modes) {
		t.Error("the modes told", counts)
	}
}

// tellAll tells which of a run of events are told, from the zero state, and the state behind each.
func tellAll(mode int, run []api.Mouse) ([]bool, []State) {
	var s State
	oks, cells := make([]bool, len(run)), make([]State, len(run))
	for i, e := range run {
		s, oks[i] = Tell(mode, s, e)
		cells[i] = s
	}
	return oks, cells
}

// checkRun holds a run of events against the chapter: the state is the cell of the last event that was told.
func checkRun(t *testing.T, mode int, run []api.Mouse) {
	t.Helper()
	oks, cells := tellAll(mode, run)
	last := State{}
	for i, e := range run {
		want := isTold(mode, last, e)
		if want {
			last = State{e.X, e.Y}
		}
		if oks[i] != want || cells[i] != last {
			t.Fatalf("%d: of %+v the event %d is told: %v, and the state is %+v", mode, run, i, oks[i], cells[i])
		}
	}
}

// P15.3: a motion in the cell that was told last isn't told again; a press or a release in it is; a motion back to a cell that was left is.
func TestRunRows(t *testing.T) {
	move := func(button, x, y int) api.Mouse { return api.Mouse{Button: button, Type: api.Motion, X: x, Y: y} }
	press := func(button, x, y int) api.Mouse { return api.Mouse{Button: button, Type: api.Press, X: x, Y: y} }
	release := func(button, x, y int) api.Mouse { return api.Mouse{Button: button, Type: api.Release, X: x, Y: y} }
	const no, yes = false, true
	for _, r := range []struct {
		mode int
		run  []api.Mouse
		want []bool
	}{
		{1002, []api.Mouse{move(1, 5, 6), move(1, 5, 6), move(1, 5, 6)}, []bool{yes, no, no}},
		{1002, []api.Mouse{press(1, 5, 6), move(1, 5, 6), move(1, 6, 6), release(1, 6, 6), press(1, 6, 6)}, []bool{yes, no, yes, yes, yes}},
		{1002, []api.Mouse{move(1, 5, 6), move(1, 5, 7), move(1, 5, 6), move(1, 5, 6)}, []bool{yes, yes, yes, no}},
		{1002, []api.Mouse{move(1, 5, 6), move(0, 5, 7), move(1, 5, 6), move(1, 5, 7)}, []bool{yes, no, no, yes}},
		{1002, []api.Mouse{move(1, 5, 6), move(2, 5, 6), press(4, 5, 6), move(3, 5, 6)}, []bool{yes, no, yes, no}},
		{1003, []api.Mouse{move(0, 5, 6), move(0, 5, 6), move(1, 5, 6), press(1, 5, 6), press(1, 5, 6), release(1, 5, 6)}, []bool{yes, no, no, yes, yes, yes}},
		{1003, []api.Mouse{move(0, 5, 6), move(0, 6, 6), move(0, 5, 6), move(0, 5, 5), move(0, 5, 5)}, []bool{yes, yes, yes, yes, no}},
		{1003, []api.Mouse{press(4, 1, 1), move(0, 1, 1), move(4, 2, 2), move(0, 1, 1), move(0, 2, 2)}, []bool{yes, no, no, no, yes}},
		{1000, []api.Mouse{press(1, 5, 6), move(1, 6, 6), release(1, 6, 6), press(1, 6, 6)}, []bool{yes, no, yes, yes}},
		{9, []api.Mouse{press(1, 5, 6), release(1, 5, 6), press(4, 5, 6), press(3, 5, 6), move(3, 6, 6)}, []bool{yes, no, no, yes, no}},
		{0, []api.Mouse{press(1, 5, 6), move(1, 6, 6)}, []bool{no, no}},
	} {
		if got, _ := tellAll(r.mode, r.run); !slices.Equal(got, r.want) {
			t.Errorf("%d: of %+v are told %v", r.mode, r.run, got)
		}
		checkRun(t, r.mode, r.run)
	}
}

// steps are events of each kind that modes hold apart, in some cells side by side, and one that may not be.
func steps() []api.Mouse {
	var l []api.Mouse
	for _, cell := range []State{{5, 6}, {6, 6}, {5, 7}} {
		for _, e := range []api.Mouse{
			{Button: 1, Type: api.Press}, {Button: 4, Type: api.Press}, {Button: 8, Type: api.Release},
			{Button: 0, Type: api.Motion}, {Button: 2, Type: api.Motion},
		} {
			e.X, e.Y = cell.X, cell.Y
			l = append(l, e)
		}
	}
	return append(l, api.Mouse{Button: 5, Type: api.Motion, X: 6, Y: 7})
}

// P15.2, P15.3: all runs of four steps, by each mode.
func TestAllShortRuns(t *testing.T) {
	l := steps()
	n := len(l)
	for i := range n * n * n * n {
		run := []api.Mouse{l[i%n], l[i/n%n], l[i/n/n%n], l[i/n/n/n]}
		for _, mode := range modeNumbers() {
			checkRun(t, mode, run)
		}
	}
}

// P15.3: long runs: no two events that are told one behind the other are a motion in the first one's cell; and the greatest mode leaves out no motion but these.
func TestLongRuns(t *testing.T) {
	seed := uint32(15)
	next := func(n int) int {
		seed = seed*1664525 + 1013904223
		return int(seed>>8) % n
	}
	types := []int{api.Press, api.Release, api.Motion, api.Motion, api.Motion, api.Motion, api.Repeat}
	for range 40 {
		run := make([]api.Mouse, 2000)
		for i := range run {
			run[i] = api.Mouse{Button: next(13), Type: types[next(len(types))], X: 1 + next(3), Y: next(3), Mods: next(257)}
		}
		for _, mode := range append(modeNumbers(), 1001) {
			checkRun(t, mode, run)
			oks, _ := tellAll(mode, run)
			var last *api.Mouse
			for i := range run {
				e := &run[i]
				again := last != nil && e.Type == api.Motion && e.X == last.X && e.Y == last.Y
				if oks[i] && again || mode == 1003 && May(*e) && !oks[i] && !again {
					t.Fatalf("%d: %+v behind %+v is told: %v", mode, *e, last, oks[i])
				}
				if oks[i] {
					last = e
				}
			}
		}
	}
}

// The chapter's example: with 1002, moved with a button within a cell: told once.
func TestExample(t *testing.T) {
	e := api.Mouse{Button: 1, Type: api.Motion, X: 5, Y: 6}
	oks, cells := tellAll(1002, []api.Mouse{e, e, e})
	if !slices.Equal(oks, []bool{true, false, false}) || cells[2] != (State{5, 6}) {
		t.Error(oks, cells)
	}
}

// R3: what is handed in stays as it is, and the same is told twice.
func TestWhatIsHandedInStays(t *testing.T) {
	for _, mode := range append(modeNumbers(), 0) {
		for _, s := range states(5, 6) {
			for _, e := range append(events(5, 6), api.Mouse{Button: 1, Type: api.Repeat, X: 5, Y: 6}) {
				wasState, was := s, e
				may := May(e)
				one, first := Tell(mode, s, e)
				two, second := Tell(mode, s, e)
				if s != wasState || e != was {
					t.Fatalf("%+v, %+v became %+v, %+v", wasState, was, s, e)
				}
				if one != two || first != second || may != May(e) {
					t.Fatalf("Tell(%d, %+v, %+v) = %+v, %v, and then %+v, %v", mode, s, e, one, first, two, second)
				}
			}
		}
	}
}

// R4: nothing is kept from call to call: in any order of calls each is told what it is told alone.
func TestNothingIsKept(t *testing.T) {
	l, cells := events(5, 6), states(5, 6)
	modes := append(modeNumbers(), 0, 1001)
	for i := range 50000 {
		e, s, mode := l[i*7%len(l)], cells[i*5%len(cells)], modes[i%len(modes)]
		if i%3 == 0 {
			e.X = 6
		}
		checkMay(t, e, true)
		check(t, mode, s, e)
	}
}

// P1: every call ends, and none panics, at all numbers; and each is as the chapter says.
func TestNoCallPanics(t *testing.T) {
	var l []int
	for bit := range 64 {
		for add := -2; add <= 2; add++ {
			l = append(l, 1<<bit+add, -(1<<bit + add))
		}
	}
	for i, n := range l {
		other := l[len(l)-1-i]
		for _, e := range []api.Mouse{
			{Button: n, Type: other, X: n, Y: other, Mods: n},
			{Button: n, Type: api.Press, X: 5, Y: 6},
			{Button: 1, Type: n, X: 5, Y: 6},
			{Button: 1, Type: api.Motion, X: n, Y: other},
			{Button: 0, Type: api.Motion, X: 5, Y: 6, Mods: n},
		} {
			checkMay(t, e, mayRest(e) && mayButtons(e.Button, e.Type))
			for _, mode := range []int{9, 1000, 1002, 1003, n, other} {
				for _, s := range []State{{}, {n, other}, {other, n}, {5, 6}} {
					check(t, mode, s, e)
				}
			}
		}
	}
}
