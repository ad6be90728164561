package engine

import (
	"bytes"
	"math"
	"slices"
	"strconv"
	"strings"
	"testing"

	"clavier/act"
	"clavier/api"
	"clavier/board"
	"clavier/decode"
	"clavier/host"
	"clavier/kitty"
	"clavier/modes"
	"clavier/mods"
	"clavier/mouse"
	"clavier/paste"
	"clavier/stack"
	"clavier/track"
	"clavier/wire"
)

// The calls are as the chapter has them.
var (
	_ func(int, api.Modes) *Engine           = New
	_ func(*Engine, Step) []byte             = (*Engine).Do
	_ func(*Engine) act.State                = (*Engine).State
	_ func(*Engine) int                      = (*Engine).Len
	_ func(*Engine) int                      = (*Engine).Dropped
	_ func(*Engine, []Step) ([]byte, []byte) = Run
	_ struct {
		Kind   int
		Key    api.Key
		Mouse  api.Mouse
		In     bool
		Data   string
		Screen api.Screen
		N      int
	} = Step{}
)

// P24.2: the kinds are the chapter's.
func TestKinds(t *testing.T) {
	if Key != 1 || Mouse != 2 || Focus != 3 || Paste != 4 || Host != 5 || Look != 6 || Drain != 7 {
		t.Error("the kinds are", Key, Mouse, Focus, Paste, Host, Look, Drain)
	}
}

// model is an engine by the chapter's words; kept are all items that had room.
type model struct {
	room    int
	waits   string
	dropped int
	kept    []string
	parser  *host.Parser
	state   act.State
	screen  api.Screen
	cell    track.State
}

func newModel(room int, m api.Modes) *model {
	return &model{room: room, parser: host.New(), state: act.State{Modes: m}}
}

func (w *model) send(item []byte) {
	if len(item) == 0 {
		return
	}
	if len(w.waits)+len(item) > w.room {
		w.dropped++
		return
	}
	w.waits += string(item)
	w.kept = append(w.kept, string(item))
}

func (w *model) do(s Step) string {
	m := w.state.Modes
	switch s.Kind {
	case 1:
		w.send(board.Key(m, w.state.Stack.Now, s.Key))
	case 2:
		cell, told := track.Tell(m.Mouse, w.cell, s.Mouse)
		w.cell = cell
		if told {
			w.send(mouse.Encode(m.Mouse, m.Coding, s.Mouse))
		}
	case 3:
		w.send(paste.Focus(m, s.In))
	case 4:
		w.send(paste.Send(m, []byte(s.Data)))
	case 5:
		for _, q := range w.parser.Feed([]byte(s.Data)) {
			state, answers, _ := act.Do(w.state, w.screen, q)
			w.state = state
			for _, a := range answers {
				b, _ := wire.Put(a)
				w.send(b)
			}
		}
	case 6:
		w.screen = s.Screen
	case 7:
		n := max(0, min(s.N, len(w.waits)))
		told := w.waits[:n]
		w.waits = w.waits[n:]
		return told
	}
	return ""
}

// checkStep lets a step happen to both, and ends the test, if they tell, or are, another thing.
func checkStep(t *testing.T, e *Engine, w *model, s Step) string {
	t.Helper()
	told, want := string(e.Do(s)), w.do(s)
	if told != want {
		t.Fatalf("Do(%.199q) tells %q, not %q", s.Data, told, want)
	}
	checkState(t, e, w, s)
	return told
}

// checkState ends the test, if an engine isn't as it ought to be.
func checkState(t *testing.T, e *Engine, w *model, s Step) {
	t.Helper()
	if e.Len() != len(w.waits) || e.Dropped() != w.dropped || e.Len() > w.room {
		t.Fatalf("after %+v %d bytes wait, and %d items are dropped, not %d and %d", s, e.Len(), e.Dropped(), len(w.waits), w.dropped)
	}
	if !act.Same(e.State(), w.state) {
		t.Fatalf("after %+v the state is %+v, not %+v", s, e.State(), w.state)
	}
}

// checkRun lets all steps happen to both, and holds against each other what they leave.
func checkRun(t *testing.T, room int, m api.Modes, l []Step) (*Engine, *model) {
	t.Helper()
	e, w := New(room, m), newModel(room, m)
	var told string
	for _, s := range l {
		told += checkStep(t, e, w, s)
	}
	drained, waits := Run(New(room, m), l)
	if string(drained) != told || string(waits) != w.waits {
		t.Fatalf("Run(%d, %+v) = %q, %q, not %q, %q", room, m, drained, waits, told, w.waits)
	}
	if string(drained)+string(waits) != strings.Join(w.kept, "") {
		t.Fatalf("Run(%d, %+v) leaves %q, %q, which aren't the items %q", room, m, drained, waits, w.kept)
	}
	return e, w
}

// press, point, hosts, pastes, looks, drains are steps.
func press(code, mods int) Step {
	return Step{Kind: Key, Key: api.Key{Code: code, Mods: mods, Type: api.Press}}
}

func point(button, typ, x, y int) Step {
	return Step{Kind: Mouse, Mouse: api.Mouse{Button: button, Type: typ, X: x, Y: y}}
}

func focus(in bool) Step         { return Step{Kind: Focus, In: in} }
func hosts(data string) Step     { return Step{Kind: Host, Data: data} }
func pastes(data string) Step    { return Step{Kind: Paste, Data: data} }
func looks(s api.Screen) Step    { return Step{Kind: Look, Screen: s} }
func drains(n int) Step          { return Step{Kind: Drain, N: n} }
func at(row, col int) api.Screen { return api.Screen{Row: row, Col: col} }

// wraps are numbers that would be n, if only their last bits were told.
func wraps(n int) []int {
	l := []int{n + math.MinInt}
	for _, bits := range []int{8, 16, 21, 31, 32, 33, 62} {
		l = append(l, n+1<<bits, n-1<<bits)
	}
	return l
}

// ends are very small and very great numbers.
func ends() []int {
	return []int{
		math.MinInt, math.MinInt + 1, math.MinInt32 - 1, math.MinInt32, -65536, -256, -64, -1,
		1114112, math.MaxInt32, math.MaxInt32 + 1, math.MaxUint32, math.MaxUint32 + 1, math.MaxInt - 1, math.MaxInt,
	}
}

// someModes are modes that may be, of all kinds.
func someModes() []api.Modes {
	return []api.Modes{
		{}, {Cursor: true}, {Keypad: true}, {Back: true}, {Focus: true}, {Paste: true}, {Lock: true}, {Line: true},
		{Mouse: 9}, {Mouse: 1000}, {Mouse: 1002}, {Mouse: 1003}, {Mouse: 1003, Coding: 1005}, {Mouse: 1002, Coding: 1006}, {Mouse: 1000, Coding: 1015}, {Coding: 1006}, {Other: 1}, {Other: 2},
		{Focus: true, Paste: true, Mouse: 1003, Coding: 1006}, {Cursor: true, Keypad: true, Back: true, Focus: true, Paste: true, Line: true, Mouse: 1002, Coding: 1015, Other: 2},
		{Cursor: true, Keypad: true, Back: true, Focus: true, Paste: true, Lock: true, Line: true, Mouse: 9, Coding: 1005, Other: 1},
	}
}

// noModes are modes that may not be.
func noModes() []api.Modes {
	l := []api.Modes{{Mouse: 1}, {Mouse: 1001}, {Mouse: 1004}, {Mouse: -9}, {Coding: 1004}, {Coding: 9}, {Coding: -1}, {Other: 3}, {Other: -1}, {Mouse: 1006}, {Coding: 1003}, {Paste: true, Other: 4}}
	for _, n := range append(wraps(1003), wraps(0)...) {
		l = append(l, api.Modes{Mouse: n}, api.Modes{Coding: n + 3}, api.Modes{Other: n + 5})
	}
	return l
}

// P24.1: rooms that may be, and that may not; modes that may be, and that may not.
func TestNew(t *testing.T) {
	for _, room := range []int{64, 65, 100, 4096, 65535, 65536} {
		for _, m := range someModes() {
			e := New(room, m)
			if e == nil {
				t.Fatalf("New(%d, %+v) is nil", room, m)
			}
			if s := e.State(); !act.Same(s, act.State{Modes: m}) || s.Modes != m || e.Len() != 0 || e.Dropped() != 0 {
				t.Fatalf("New(%d, %+v) is %+v, %d, %d", room, m, s, e.Len(), e.Dropped())
			}
			if told, waits := Run(e, nil); len(told) != 0 || len(waits) != 0 {
				t.Fatalf("of New(%d, %+v) %q, %q waits", room, m, told, waits)
			}
		}
		for _, m := range noModes() {
			if !modes.May(m) && New(room, m) != nil {
				t.Fatalf("New(%d, %+v) isn't nil", room, m)
			}
		}
	}
	rooms := append(ends(), 0, 1, 2, 63, 65537, 131072)
	for _, n := range []int{64, 65536} {
		rooms = append(rooms, -n)
		rooms = append(rooms, slices.DeleteFunc(wraps(n), func(room int) bool { return 64 <= room && room <= 65536 })...)
	}
	for _, room := range rooms {
		for _, m := range append(someModes(), noModes()...) {
			if New(room, m) != nil {
				t.Fatalf("New(%d, %+v) isn't nil", room, m)
			}
		}
	}
}

// P24.1: an engine has just so much room as it is asked.
func TestRoom(t *testing.T) {
	for _, room := range []int{64, 65, 1000, 65535, 65536} {
		e := New(room, api.Modes{})
		e.Do(pastes(strings.Repeat("x", room+1)))
		if e.Len() != 0 || e.Dropped() != 1 {
			t.Fatalf("of the room %d %d bytes wait, and %d items are dropped", room, e.Len(), e.Dropped())
		}
		e.Do(pastes(strings.Repeat("x", room)))
		e.Do(press('a', 0))
		if e.Len() != room || e.Dropped() != 2 {
			t.Fatalf("of the room %d %d bytes wait, and %d items are dropped", room, e.Len(), e.Dropped())
		}
	}
}

// eachStep are steps of each kind, and of kinds that are none.
func eachStep() []Step {
	l := []Step{press('a', 0), press(57352, 5), point(1, 1, 1, 1), point(0, 4, 7, 8), focus(true), focus(false), pastes("hi"), pastes(""), hosts("\x1b[c\x1b[?2004h"), hosts(""), looks(at(3, 4)), drains(0), drains(5), drains(math.MaxInt)}
	kinds := append(ends(), 0, 8, 9, 100)
	for kind := 1; kind <= 7; kind++ {
		kinds = append(kinds, -kind)
		kinds = append(kinds, wraps(kind)...)
	}
	for _, kind := range kinds {
		if 1 <= kind && kind <= 7 {
			continue
		}
		l = append(l, Step{Kind: kind, Key: press('a', 0).Key, Mouse: point(1, 1, 1, 1).Mouse, In: true, Data: "\x1b[c", Screen: at(9, 9), N: 99})
	}
	return l
}

// P24.1: an engine that is nil is asked anything.
func TestNil(t *testing.T) {
	var e *Engine
	check := func() {
		t.Helper()
		if s := e.State(); !act.Same(s, act.State{}) || len(s.Stack.Kept) != 0 || e.Len() != 0 || e.Dropped() != 0 {
			t.Fatalf("nil is %+v, %d, %d", s, e.Len(), e.Dropped())
		}
	}
	check()
	for _, s := range eachStep() {
		if told := e.Do(s); len(told) != 0 {
			t.Fatalf("nil tells %q", told)
		}
		check()
	}
	for _, l := range [][]Step{nil, {}, eachStep()} {
		if told, waits := Run(e, l); len(told) != 0 || len(waits) != 0 {
			t.Fatalf("nil leaves %q, %q", told, waits)
		}
		check()
	}
}

// P24.2: of kinds that are none nothing happens, and nothing is told.
func TestKindsThatAreNone(t *testing.T) {
	for _, s := range eachStep() {
		if 1 <= s.Kind && s.Kind <= 7 {
			continue
		}
		e := New(64, api.Modes{Mouse: 1003, Focus: true})
		e.Do(press('x', 0))
		told := e.Do(s)
		if len(told) != 0 || e.Len() != 1 || e.Dropped() != 0 || !act.Same(e.State(), act.State{Modes: api.Modes{Mouse: 1003, Focus: true}}) {
			t.Fatalf("Do of the kind %d tells %q, and leaves %d, %d, %+v", s.Kind, told, e.Len(), e.Dropped(), e.State())
		}
		// Neither the cell nor the facts are changed.
		_, waits := Run(e, []Step{point(0, api.Motion, 1, 1), hosts("\x1b[6n")})
		want, _ := wire.Put(wire.Num(0, 'R', 0, 0))
		first := mouse.Encode(1003, 0, point(0, api.Motion, 1, 1).Mouse)
		if string(waits) != "x"+string(first)+string(want) {
			t.Fatalf("after the kind %d %q waits", s.Kind, waits)
		}
	}
}

// P24.2, P24.3: steps, what they tell, and what waits then, written out.
func TestRows(t *testing.T) {
	const shift, ctrl = api.Shift, api.Ctrl
	for _, r := range []struct {
		name        string
		m           api.Modes
		l           []Step
		told, waits string
	}{
		{"nothing", api.Modes{}, nil, "", ""},
		{"a key", api.Modes{}, []Step{press('a', 0), press('c', ctrl)}, "", "a\x03"},
		{"keys as the modes are", api.Modes{Cursor: true, Other: 2}, []Step{press(57352, 0), press('i', ctrl)}, "", "\x1bOA\x1b[27;5;105~"},
		{"keys as the host sets", api.Modes{}, []Step{press(57352, 0), hosts("\x1b[?1h"), press(57352, 0), hosts("\x1b[?1l"), press(57352, 0)}, "", "\x1b[A\x1bOA\x1b[A"},
		{"flags", api.Modes{}, []Step{press('c', ctrl), hosts("\x1b[>1u"), press('c', ctrl), hosts("\x1b[=8;2u"), press('a', 0), hosts("\x1b[<u"), press('a', 0), press('c', ctrl)}, "", "\x03\x1b[99;5u\x1b[97ua\x03"},
		{"keys that send nothing", api.Modes{}, []Step{press(57441, 0), press(0, 0), {Kind: Key, Key: api.Key{Code: 'a', Type: api.Release}}, {Kind: Key}}, "", ""},
		{"the lock", api.Modes{Lock: true}, []Step{press('a', 0), hosts("\x1b[2l"), press('b', 0), hosts("\x1b[2h"), press('c', 0)}, "", "b"},
		{"no mouse", api.Modes{}, []Step{point(1, 1, 1, 1), point(0, 4, 2, 2)}, "", ""},
		{"a mouse", api.Modes{Mouse: 1000, Coding: 1006}, []Step{point(1, 1, 1, 1), point(1, 4, 2, 2), point(1, 3, 2, 2)}, "", "\x1b[<0;1;1M\x1b[<0;2;2m"},
		{"a mouse within a cell", api.Modes{Mouse: 1003, Coding: 1006}, []Step{point(0, 4, 5, 5), point(0, 4, 5, 5), point(0, 4, 5, 6), point(1, 1, 5, 6), point(1, 1, 5, 6), point(1, 4, 5, 6), point(1, 4, 5, 5)}, "",
			"\x1b[<35;5;5M\x1b[<35;5;6M\x1b[<0;5;6M\x1b[<0;5;6M\x1b[<32;5;5M"},
		{"a cell that is kept, though nothing is sent", api.Modes{Mouse: 1003}, []Step{point(0, 4, 300, 5), hosts("\x1b[?1006h"), point(0, 4, 300, 5), point(0, 4, 300, 6)}, "", "\x1b[<35;300;6M"},
		{"a cell that isn't kept, since nothing is told", api.Modes{Mouse: 1000, Coding: 1006}, []Step{point(0, 4, 5, 5), hosts("\x1b[?1003h"), point(0, 4, 5, 5)}, "", "\x1b[<35;5;5M"},
		{"the codings", api.Modes{Mouse: 1000}, []Step{point(1, 1, 1, 1), hosts("\x1b[?1015h"), point(1, 1, 1, 1), hosts("\x1b[?1005h"), point(1, 1, 96, 1), hosts("\x1b[?9h\x1b[?1006h"), {Kind: Mouse, Mouse: api.Mouse{Button: 2, Type: 1, X: 3, Y: 4, Mods: shift}}}, "",
			"\x1b[M !!\x1b[32;1;1M\x1b[M \u0080!\x1b[<1;3;4M"},
		{"no focus", api.Modes{}, []Step{focus(true), focus(false)}, "", ""},
		{"the focus", api.Modes{}, []Step{focus(true), hosts("\x1b[?1004h"), focus(true), focus(false), focus(false), hosts("\x1b[?1004l"), focus(true)}, "", "\x1b[I\x1b[O\x1b[O"},
		{"a paste", api.Modes{}, []Step{pastes("a\x1b[201~b"), hosts("\x1b[?2004h"), pastes("a\x1bb\x00"), pastes("")}, "", "a[201~b\x1b[200~ab\x1b[201~\x1b[200~\x1b[201~"},
		{"an empty paste", api.Modes{}, []Step{pastes(""), pastes("\x1b\x00\xff")}, "", ""},
		{"requests", api.Modes{}, []Step{hosts("\x1b[5n\x1b[?u"), hosts("x\x1b[c")}, "", "\x1b[0n\x1b[?0u\x1b[?62;22c"},
		{"a request that is cut", api.Modes{}, []Step{hosts("\x1b"), press('a', 0), hosts("[5"), press('b', 0), hosts("n"), press('c', 0)}, "", "ab\x1b[0nc"},
		{"a request that is spoilt", api.Modes{}, []Step{hosts("\x1b[5\x18n\x1b[5\x1b[6\x1an\x1b[5\x80n")}, "", ""},
		{"a request that is too long", api.Modes{}, []Step{hosts("\x1bP$q" + strings.Repeat("m", 4097) + "\x1b\\\x1b[5n")}, "", "\x1b[0n"},
		{"what isn't known", api.Modes{}, []Step{hosts("\x1b[J\x1b]0;x\x07\x1b[7n")}, "", ""},
		{"what is known of the screen", api.Modes{}, []Step{hosts("\x1b[6n"), looks(at(3, 4)), hosts("\x1b[6n\x1b[6"), looks(at(5, 6)), hosts("n\x1b[?6n")}, "", "\x1b[0;0R\x1b[3;4R\x1b[5;6R\x1b[?5;6;1R"},
		{"facts that may not be told", api.Modes{}, []Step{looks(at(-7, 1<<40)), press('a', 0), looks(at(3, 4)), hosts("\x1b[6n")}, "", "a\x1b[3;4R"},
		{"what the host may ask of itself", api.Modes{}, []Step{hosts("\x1b[?2004h\x1b[?2004$p\x1b[?2004l\x1b[?2004$p")}, "", "\x1b[?2004;1$y\x1b[?2004;2$y"},
		{"draining", api.Modes{}, []Step{drains(9), pastes("abcdef"), drains(0), drains(-1), drains(math.MinInt), drains(2), press('g', 0), drains(4), drains(9), pastes("hi")}, "abcdefg", "hi"},
		{"draining within an item", api.Modes{}, []Step{press(57352, 0), drains(1), press('a', 0), drains(3)}, "\x1b[Aa", ""},
		{"all that waits", api.Modes{}, []Step{pastes("ab"), drains(math.MaxInt)}, "ab", ""},
		{"a reset", api.Modes{Paste: true, Focus: true, Mouse: 1003}, []Step{hosts("\x1b[>3u\x1bc\x1b[?u"), focus(true), pastes("x"), point(1, 1, 1, 1)}, "", "\x1b[?0ux"},
		{"saved modes", api.Modes{Paste: true}, []Step{hosts("\x1b[?2004s\x1b[?2004l"), pastes("x"), hosts("\x1b[?2004r"), pastes("y")}, "", "x\x1b[200~y\x1b[201~"},
	} {
		told, waits := Run(New(4096, r.m), r.l)
		if string(told) != r.told || string(waits) != r.waits {
			t.Errorf("%s: Run = %q, %q, not %q, %q", r.name, told, waits, r.told, r.waits)
		}
		checkRun(t, 4096, r.m, r.l)
	}
}

// P24.2: the chapter's example.
func TestExample(t *testing.T) {
	e := New(64, api.Modes{})
	told, waits := Run(e, []Step{{Kind: Host, Data: "\x1b[?2004h"}, {Kind: Paste, Data: "a paste"}})
	if len(told) != 0 || string(waits) != "\x1b[200~a paste\x1b[201~" {
		t.Errorf("Run = %q, %q", told, waits)
	}
}

// P24.2, P24.4: items that don't fit are dropped whole, and counted; later and smaller ones do.
func TestItemsThatDoNotFit(t *testing.T) {
	e, w := checkRun(t, 64, api.Modes{Mouse: 1003, Coding: 1006, Focus: true}, []Step{
		pastes(strings.Repeat("x", 60)), pastes("12345"), pastes("1234"), press('a', 0), focus(true), hosts("\x1b[5n"), point(1, 1, 1, 1),
		drains(1), press(57352, 0), press('b', 0), press('c', 0), drains(8), hosts("\x1b[c\x1b[5n\x1b[5n\x1b[?u"),
		drains(3), hosts("\x1b[c\x1b[5n"), drains(7), pastes(strings.Repeat("y", 65)), pastes(strings.Repeat("y", 7)),
	})
	if want := strings.Repeat("x", 41) + "1234b\x1b[0n\x1b[0n" + strings.Repeat("y", 7); w.waits != want {
		t.Errorf("%q waits, not %q", w.waits, want)
	}
	if e.Dropped() != 12 {
		t.Errorf("%d items are dropped", e.Dropped())
	}
}

// P24.2: each answer is an item of its own: where one has no room, the next one may.
func TestEachAnswerIsAnItem(t *testing.T) {
	for free := range 24 {
		checkRun(t, 64, api.Modes{}, []Step{pastes(strings.Repeat("x", 64-free)), hosts("\x1b[c\x1b[5n\x1b[?u\x1b[>c\x1b[6n\x1b[5n"), drains(64), hosts("\x1b[c\x1b[5n")})
	}
}

// P24.2: an item that has no room changes the state all the same: the cell, and what the host sets.
func TestWhatHasNoRoomHappens(t *testing.T) {
	e, w := checkRun(t, 64, api.Modes{Mouse: 1003, Coding: 1006}, []Step{
		pastes(strings.Repeat("x", 64)), point(0, 4, 5, 5), drains(64), point(0, 4, 5, 5), point(0, 4, 5, 6), drains(64),
		pastes(strings.Repeat("x", 64)), hosts("\x1b[c\x1b[?2004h\x1b[>3u"), drains(64), hosts("\x1b[?u"), pastes("a"),
	})
	if e.Dropped() != 2 || w.waits != "\x1b[?3u\x1b[200~a\x1b[201~" {
		t.Errorf("%d items are dropped, and %q waits", e.Dropped(), w.waits)
	}
}

// P24.2: keys of all kinds, in modes and with flags of all kinds.
func TestKeys(t *testing.T) {
	var keys []Step
	for _, code := range []int{'a', 'A', '7', 233, 128512, 9, 13, 27, 127, 57350, 57352, 57366, 57348, 57375, 57399, 57414, 57427, 57358, 57441, 0, 128, 57455, -1} {
		for _, k := range []api.Key{{}, {Text: "\u00e9"}, {Shifted: 'A', Base: 'q'}} {
			for _, m := range []int{0, 1, 2, 4, 7, 64, 255, 256} {
				k.Code, k.Mods, k.Type = code, m, 1+(code+m)&3
				keys = append(keys, Step{Kind: Key, Key: k})
			}
		}
	}
	for _, m := range someModes() {
		for flags := range 33 {
			l := []Step{hosts("\x1b[>" + strconv.Itoa(flags) + "u")}
			for i := flags % 7; i < len(keys); i += 7 {
				l = append(l, keys[i])
			}
			checkRun(t, 65536, m, l)
		}
	}
}

// P24.2: mice of all kinds, in all modes and codings.
func TestMice(t *testing.T) {
	for _, mode := range []int{0, 9, 1000, 1002, 1003} {
		for _, coding := range []int{0, 1005, 1006, 1015} {
			var l []Step
			for button := -1; button < 13; button++ {
				for typ := range 6 {
					for i, cell := range [][2]int{{1, 1}, {1, 1}, {2, 1}, {2, 2}, {223, 224}, {2015, 2016}, {65535, 65535}, {0, 1}, {1, 65536}} {
						s := point(button, typ, cell[0], cell[1])
						s.Mouse.Mods = []int{0, 1, 6, 255, 256, -1}[(button+typ+i+6)%6]
						l = append(l, s)
					}
				}
			}
			checkRun(t, 65536, api.Modes{Mouse: mode, Coding: coding}, l)
		}
	}
}

// P24.2: the cell is told by the event alone, not by what is sent; each run of three steps of a few.
func TestCells(t *testing.T) {
	few := []Step{
		point(0, 4, 5, 5), point(1, 4, 5, 5), point(1, 1, 5, 5), point(1, 3, 6, 5), point(4, 1, 300, 5), point(0, 4, 300, 5), point(0, 4, 0, 5), point(1, 4, 6, 5),
		hosts("\x1b[?1000h"), hosts("\x1b[?1003l"), hosts("\x1b[?1006h"), hosts("\x1bc"), drains(4), {Kind: 9, Mouse: api.Mouse{Button: 1, Type: 1, X: 9, Y: 9}},
	}
	for _, a := range few {
		for _, b := range few {
			for _, c := range few {
				checkRun(t, 64, api.Modes{Mouse: 1003, Coding: 1015}, []Step{a, b, c, hosts("\x1b[?1003h\x1b[?1006h"), point(0, 4, 5, 5), point(0, 4, 6, 5)})
			}
		}
	}
}

// requests are what the host sends that is answered, or changes something.
func requests() []string {
	return []string{
		"\x1b[?2004h", "\x1b[?2004l", "\x1b[?1004h", "\x1b[?1004l", "\x1b[?1h", "\x1b[?1l", "\x1b[?66h", "\x1b[?67h", "\x1b[?9h", "\x1b[?1000h", "\x1b[?1002h", "\x1b[?1003h", "\x1b[?1003l",
		"\x1b[?1005h", "\x1b[?1006h", "\x1b[?1015h", "\x1b[?1006l", "\x1b[2h", "\x1b[2l", "\x1b[2l", "\x1b[20h", "\x1b[20l", "\x1b[>4;2m", "\x1b[>4;1m", "\x1b[>4m", "\x1b[>4n",
		"\x1b[>1u", "\x1b[>31u", "\x1b[=11u", "\x1b[=16;2u", "\x1b[=2;3u", "\x1b[<u", "\x1b[<9u", "\x1b[?u", "\x1b[?1;2004;1006s", "\x1b[?1;2004;1006r",
		"\x1b[c", "\x1b[>c", "\x1b[=c", "\x1b[5n", "\x1b[6n", "\x1b[?6n", "\x1b[?2004$p", "\x1b[20$p", "\x1b[>q", "\x1b[!p", "\x1b=", "\x1b>", "\x1bc", "\x1bP$qm\x1b\\", "\x1bP$qr\x1b\\", "\x1bP+q544E;436F\x1b\\", "\x1bP+q00\x1b\\",
	}
}

// noise is what the host sends that does nothing, or spoils what stands beside it.
func noise() []string {
	return []string{"", "a", "\x18", "\x1a", "\x1b", "\x1b[", "\x1bP$q", "5", ";", "n", "\x07", "\x80", "\x1b\\", "\x1b[J", "\x1b]0;x\x07", "\x1b[1;70000H", "\x1bX\x1b[c\x1b\\", "\x1b]" + strings.Repeat("x", 4097) + "\x1b\\", "\u00e9"}
}

// chance is a row of numbers of a fixed seed.
type chance uint64

// upTo is the next number, below n.
func (c *chance) upTo(n int) int {
	*c = *c*6364136223846793005 + 1442695040888963407
	return int(uint64(*c) >> 33 % uint64(n))
}

// pick is one of a list.
func pick[T any](c *chance, l []T) T {
	return l[c.upTo(len(l))]
}

// anyKey is a key's event, most of which may be.
func anyKey(c *chance) Step {
	k := api.Key{Code: pick(c, []int{'a', 'c', 'i', '7', '?', 233, 8364, 9, 13, 27, 127, 57350, 57352, 57364, 57366, 57348, 57375, 57399, 57406, 57414, 57420, 57358, 57441, 0}), Mods: pick(c, []int{0, 0, 0, 1, 2, 4, 5, 7, 64, 255, 256}), Type: 1 + c.upTo(3)}
	k.Shifted, k.Base, k.Text = pick(c, []int{0, 0, 'A', '!'}), pick(c, []int{0, 0, 'q'}), pick(c, []string{"", "", "", "x", "\u00e9\u20ac", "\x1b"})
	return Step{Kind: Key, Key: k}
}

// anyMouse is a mouse's event, most of which may be, in one of a few cells.
func anyMouse(c *chance) Step {
	s := point(c.upTo(12), pick(c, []int{1, 3, 4, 4, 4}), pick(c, []int{1, 2, 2, 300, 3000}), 1+c.upTo(2))
	s.Mouse.Mods = pick(c, []int{0, 0, 1, 4, 7, 255})
	return s
}

// anyPaste is a paste, clean or not.
func anyPaste(c *chance) Step {
	var b strings.Builder
	for range pick(c, []int{0, 1, 3, 10, 60}) {
		b.WriteString(pick(c, []string{"a", "b", "\u00e9", "\x1b", "\x1b[201~", "\xff", "\n", "\x00"}))
	}
	return pastes(b.String())
}

// anyHost is what the host sends, whole, cut, or spoilt.
func anyHost(c *chance) Step {
	var b strings.Builder
	for range 1 + c.upTo(3) {
		switch s := pick(c, requests()); c.upTo(8) {
		case 0:
			b.WriteString(pick(c, noise()))
		case 1:
			b.WriteString(s[:c.upTo(len(s))])
		case 2:
			b.WriteString(s[c.upTo(len(s)):])
		default:
			b.WriteString(s)
		}
	}
	return hosts(b.String())
}

// anyLook is what is known of the screen.
func anyLook(c *chance) Step {
	return looks(api.Screen{
		Rows: 24, Cols: 80, Row: c.upTo(30) - 3, Col: pick(c, []int{0, 1, 70000, 1 << 40}), Top: c.upTo(3), Bottom: 24, Left: 1, Right: c.upTo(90), Shape: c.upTo(9) - 1,
		Style: api.Style{Bold: c.upTo(2) == 0, Under: c.upTo(7), Fore: c.upTo(300) - 2, Back: -1},
	})
}

// anyStep is a step of any kind.
func anyStep(c *chance) Step {
	switch c.upTo(10) {
	case 0, 1:
		return anyKey(c)
	case 2, 3:
		return anyMouse(c)
	case 4:
		return focus(c.upTo(2) == 0)
	case 5:
		return anyPaste(c)
	case 6, 7:
		return anyHost(c)
	case 8:
		return anyLook(c)
	}
	if c.upTo(9) == 0 {
		return Step{Kind: pick(c, []int{0, -1, 8, -5, math.MaxInt, 1<<32 + 1}), Data: "\x1b[c", N: 9}
	}
	return drains(pick(c, []int{-1, 0, 1, 2, 5, 9, 30, 64, 1000, math.MaxInt, math.MinInt}))
}

// P24.2, P24.3, P8: many steps of all kinds, of a fixed seed: each is as the chapter has it.
func TestRunsOfChance(t *testing.T) {
	c := chance(24)
	for i := range 1500 {
		var l []Step
		for range c.upTo(80) {
			l = append(l, anyStep(&c))
		}
		checkRun(t, []int{64, 65, 100, 300, 65536}[i%5], pick(&c, someModes()), l)
	}
}

// P24.2: each request, in each of some modes, whole, cut anywhere, and with other steps where it is cut.
func TestRequestsThatAreCut(t *testing.T) {
	for i, request := range requests() {
		m := someModes()[i%len(someModes())]
		behind := []Step{press(57352, 0), press('i', api.Ctrl), focus(true), pastes("x"), point(0, 4, 3, 3), hosts("\x1b[?u\x1b[6n")}
		whole, w := checkRun(t, 4096, m, append([]Step{looks(at(3, 4)), hosts(request)}, behind...))
		for at := range len(request) + 1 {
			head, tail := hosts(request[:at]), hosts(request[at:])
			cut, v := checkRun(t, 4096, m, append([]Step{looks(api.Screen{Row: 3, Col: 4}), head, tail}, behind...))
			if v.waits != w.waits || !act.Same(cut.State(), whole.State()) {
				t.Fatalf("%q, cut at %d, leaves %q, not %q", request, at, v.waits, w.waits)
			}
			checkRun(t, 4096, m, append([]Step{head, press('a', 0), looks(api.Screen{Row: 3, Col: 4}), point(1, 1, 1, 1), drains(1), {Kind: 8}, hosts(""), tail}, behind...))
		}
		for _, n := range noise() {
			checkRun(t, 4096, m, append([]Step{hosts(n), hosts(request + n + request), hosts(n)}, behind...))
		}
	}
}

// cut is the same steps, but that what the host sends comes in pieces.
func cut(c *chance, l []Step) []Step {
	var pieces []Step
	for _, s := range l {
		for s.Kind == Host && len(s.Data) > 0 && c.upTo(4) > 0 {
			at := c.upTo(len(s.Data) + 1)
			pieces = append(pieces, hosts(s.Data[:at]))
			s.Data = s.Data[at:]
		}
		pieces = append(pieces, s)
	}
	return pieces
}

// P24.4, P3: it doesn't matter how the host's bytes are cut between the same other steps.
func TestCuts(t *testing.T) {
	c := chance(3)
	for i := range 600 {
		var l []Step
		for range c.upTo(40) {
			l = append(l, anyStep(&c), anyHost(&c))
		}
		room, m := []int{64, 200, 65536}[i%3], pick(&c, someModes())
		e, f := New(room, m), New(room, m)
		told, waits := Run(e, l)
		toldCut, waitsCut := Run(f, cut(&c, l))
		if !bytes.Equal(told, toldCut) || !bytes.Equal(waits, waitsCut) || !act.Same(e.State(), f.State()) || e.Dropped() != f.Dropped() {
			t.Fatalf("cut otherwise, %q, %q are left, not %q, %q", toldCut, waitsCut, told, waits)
		}
	}
	// All of it byte by byte, with nothing between.
	all := strings.Join(requests(), "")
	var l []Step
	for i := range len(all) {
		l = append(l, hosts(all[i:i+1]))
	}
	told, waits := Run(New(65536, api.Modes{}), l)
	toldWhole, waitsWhole := Run(New(65536, api.Modes{}), []Step{hosts(all)})
	if len(told) != 0 || len(toldWhole) != 0 || !bytes.Equal(waits, waitsWhole) || len(waits) == 0 {
		t.Errorf("cut into bytes, %q waits, not %q", waits, waitsWhole)
	}
}

// toldItems are the items that a step sends, of an engine that is in that state.
func toldItems(w *model, s Step) []decode.Item {
	switch s.Kind {
	case Key:
		if mods.May(s.Key) {
			return []decode.Item{{Kind: decode.Key, Key: decode.Told(w.state.Stack.Now, s.Key)}}
		}
	case Mouse:
		if _, ok := track.Tell(w.state.Modes.Mouse, w.cell, s.Mouse); ok {
			e := s.Mouse
			e.Mods &= 7
			if w.state.Modes.Mouse == 9 {
				e.Mods = 0
			}
			return []decode.Item{{Kind: decode.Mouse, Mouse: e}}
		}
	case Focus:
		return []decode.Item{{Kind: decode.Focus, In: s.In}}
	case Paste:
		return []decode.Item{{Kind: decode.Paste, Paste: string(paste.Clean([]byte(s.Data)))}}
	}
	return nil
}

// P24.4, P4: with the flags Clear, Events and All, the coding 1006 and marks, all that was sent is told back, also where items are dropped.
func TestAllIsToldBack(t *testing.T) {
	c := chance(4)
	quiet := []string{"\x1b[c", "\x1b[>c", "\x1b[=c", "\x1b[5n", "\x1b[6n", "\x1b[?6n", "\x1b[?2004$p", "\x1b[>q", "\x1bP$qm\x1b\\", "\x1bP+q544E\x1b\\", "\x1b[?u", "\x1b[=4;2u", "\x1b[=20;3u", "\x1b[=16;2u", "\x1b[>15u", "\x1b[>27u", "\x1b[?9h", "\x1b[?1002h", "\x1b[?1003h", "\x1b[?1h", "\x1b[>4;2m", "x", "\x1b[J"}
	for i := range 700 {
		room := []int{64, 150, 65536}[i%3]
		m := api.Modes{Focus: true, Paste: true, Mouse: 1003, Coding: 1006}
		e, w := New(room, m), newModel(room, m)
		first := hosts("\x1b[>" + strconv.Itoa(kitty.Clear|kitty.Events|kitty.All|c.upTo(2)*kitty.Others|c.upTo(2)*kitty.Texts) + "u")
		checkStep(t, e, w, first)
		var want []decode.Item
		told := ""
		for range c.upTo(60) {
			s := anyStep(&c)
			if s.Kind == Host {
				s = hosts(pick(&c, quiet))
			}
			items, kept := toldItems(w, s), len(w.kept)
			told += checkStep(t, e, w, s)
			if s.Kind == Host {
				for _, k := range w.kept[kept:] {
					answer, _, _ := wire.Take([]byte(k))
					items = append(items, decode.Item{Kind: decode.Reply, Reply: answer})
				}
			}
			if len(w.kept) > kept {
				want = append(want, items...)
			}
		}
		told += string(e.Do(drains(math.MaxInt)))
		got, ok := decode.All([]byte(told))
		if !ok || !slices.EqualFunc(got, want, decode.Same) {
			t.Fatalf("%q is told back as %+v, %v, not %+v", told, got, ok, want)
		}
	}
}

// P24.4, P7: never more bytes wait than there is room for, and all that is drained, and waits, is whole items, in turn.
func TestBounded(t *testing.T) {
	c := chance(7)
	for i := range 300 {
		room := []int{64, 65, 128}[i%3]
		e := New(room, api.Modes{})
		left, turn, had := "", 0, 0
		for range 100 {
			if c.upTo(3) == 0 {
				left += string(e.Do(drains(c.upTo(room))))
				continue
			}
			// Each item tells its turn, and how long it is.
			turn++
			size, dropped := c.upTo(40), e.Dropped()
			e.Do(pastes("<" + strconv.Itoa(turn) + ":" + strings.Repeat("x", size) + strconv.Itoa(size) + ">"))
			if e.Dropped() == dropped {
				had++
			}
			if e.Len() > room {
				t.Fatalf("of the room %d %d bytes wait", room, e.Len())
			}
		}
		_, waits := Run(e, nil)
		checkWhole(t, left+string(waits), had, turn-e.Dropped())
	}
}

// checkWhole ends the test, if items aren't whole, or not in turn, or too many, or too few.
func checkWhole(t *testing.T, s string, had, kept int) {
	t.Helper()
	count, last := 0, 0
	for item := range strings.SplitAfterSeq(s, ">") {
		if item == "" {
			continue
		}
		number, text, _ := strings.Cut(strings.Trim(item, "<>"), ":")
		turn, _ := strconv.Atoi(number)
		size := strings.TrimLeft(text, "x")
		if n, err := strconv.Atoi(size); err != nil || strings.Count(text, "x") != n || turn <= last || item[0] != '<' || item[len(item)-1] != '>' {
			t.Fatalf("%q isn't whole, or not in turn, behind %d", item, last)
		}
		last = turn
		count++
	}
	if count != had || count != kept {
		t.Fatalf("there are %d items, of which %d, and %d, had room", count, had, kept)
	}
}

// P24.3: what waits at last waits no more; an engine may run again.
func TestRunAgain(t *testing.T) {
	e := New(64, api.Modes{})
	told, waits := Run(e, []Step{pastes("abc"), drains(1), hosts("\x1b[?2004h\x1b[5")})
	if string(told) != "a" || string(waits) != "bc" || e.Len() != 0 {
		t.Errorf("Run = %q, %q, and %d bytes wait", told, waits, e.Len())
	}
	for _, l := range [][]Step{nil, {}} {
		if told, waits := Run(e, l); len(told) != 0 || len(waits) != 0 {
			t.Errorf("Run of no steps = %q, %q", told, waits)
		}
	}
	told, waits = Run(e, []Step{hosts("n"), pastes("d"), drains(5), drains(5), drains(5)})
	if string(told) != "\x1b[0n\x1b[200~d\x1b[20" || string(waits) != "1~" {
		t.Errorf("Run = %q, %q", told, waits)
	}
}

// P24.1, R4: two engines share nothing.
func TestTwoEngines(t *testing.T) {
	c := chance(2)
	m := api.Modes{Mouse: 1003, Focus: true}
	a, b := New(64, m), New(300, m)
	wa, wb := newModel(64, m), newModel(300, m)
	for range 4000 {
		if c.upTo(2) == 0 {
			checkStep(t, a, wa, anyStep(&c))
		} else {
			checkStep(t, b, wb, anyStep(&c))
		}
		checkState(t, a, wa, Step{})
		checkState(t, b, wb, Step{})
	}
}

// R3: what State tells is the caller's own: later steps don't change it, and what is done to it changes no engine.
func TestStateIsTheCallersOwn(t *testing.T) {
	e := New(64, api.Modes{})
	for flags := 1; flags <= 8; flags++ {
		e.Do(hosts("\x1b[>" + strconv.Itoa(flags) + "u"))
		first := e.State()
		want := slices.Clone(first.Stack.Kept)
		again := e.State()
		for i := range again.Stack.Kept {
			again.Stack.Kept[i] = 30
		}
		_ = append(again.Stack.Kept, 29)
		_ = append(again.Stack.Kept[:0], 28, 27)
		if s := e.State(); !slices.Equal(s.Stack.Kept, want) || s.Stack.Now != flags || !slices.Equal(first.Stack.Kept, want) {
			t.Fatalf("the state is %+v, and was %v", s, want)
		}
		e.Do(hosts("\x1b[<u\x1b[>17u\x1b[>18u\x1b[<2u\x1b[>" + strconv.Itoa(flags) + "u\x1b[?2004h"))
		if !slices.Equal(first.Stack.Kept, want) || first.Modes.Paste != (flags > 1) {
			t.Fatalf("the state that was told is %+v then, and was %v", first, want)
		}
		e.Do(hosts("\x1b[<u\x1b[>" + strconv.Itoa(flags) + "u"))
	}
	if s := e.State(); len(s.Stack.Kept) == 0 || stack.Same(s.Stack, stack.Stack{}) {
		t.Error("nothing is kept", s)
	}
}

// R3: what Do and Run tell isn't changed by later steps, nor does what is done to it change what is told then.
func TestWhatIsToldIsTheCallersOwn(t *testing.T) {
	spoil := func(b []byte) {
		for i := range b {
			b[i] = '!'
		}
		_ = append(b, "??????????"...)
	}
	e := New(64, api.Modes{})
	e.Do(pastes("abcdefgh"))
	first := e.Do(drains(3))
	e.Do(pastes(strings.Repeat("z", 50)))
	if string(first) != "abc" {
		t.Fatalf("what was told is %q", first)
	}
	spoil(first)
	if second := e.Do(drains(6)); string(second) != "defghz" {
		t.Fatalf("what is told is %q", second)
	}
	told, waits := Run(e, []Step{drains(2), pastes("q"), drains(2)})
	if string(told) != "zzzz" || string(waits) != strings.Repeat("z", 45)+"q" {
		t.Fatalf("Run = %q, %q", told, waits)
	}
	keep := string(waits)
	e.Do(pastes(strings.Repeat("y", 64)))
	if string(told) != "zzzz" || string(waits) != keep {
		t.Fatalf("what Run told is %q, %q", told, waits)
	}
	spoil(told)
	if string(waits) != keep {
		t.Fatalf("both that Run tells share their bytes: %q", waits)
	}
	spoil(waits)
	if last, rest := Run(e, nil); len(last) != 0 || string(rest) != strings.Repeat("y", 64) {
		t.Fatalf("Run = %q, %q", last, rest)
	}
}

// R3: the steps that are handed in stay as they are.
func TestStepsStay(t *testing.T) {
	c := chance(5)
	for range 50 {
		l := make([]Step, 0, 64)
		for range 40 {
			l = append(l, anyStep(&c))
		}
		spare := l[40:64]
		was := slices.Clone(l)
		Run(New(100, api.Modes{Mouse: 1002, Paste: true}), l)
		if !slices.Equal(l, was) || slices.ContainsFunc(spare, func(s Step) bool { return s != Step{} }) {
			t.Fatal("Run changes its steps")
		}
	}
}

// P24.3: the same steps leave the same, whenever they are done.
func TestToldTwice(t *testing.T) {
	c := chance(6)
	for range 50 {
		var l []Step
		for range 60 {
			l = append(l, anyStep(&c))
		}
		told, waits := Run(New(100, api.Modes{}), l)
		Run(New(64, api.Modes{Lock: true}), []Step{hosts("\x1b[>5u\x1b["), drains(4), point(1, 1, 1, 1)})
		again, waitsAgain := Run(New(100, api.Modes{}), l)
		if !bytes.Equal(told, again) || !bytes.Equal(waits, waitsAgain) {
			t.Fatalf("Run = %q, %q, and again %q, %q", told, waits, again, waitsAgain)
		}
	}
}

// P1: no call panics, whatever it is given.
func TestNoCallPanics(t *testing.T) {
	nums := append(ends(), 0, 1, 2, 3, 4, 5, 6, 7, 8)
	for bits := range 63 {
		nums = append(nums, 1<<bits, -1<<bits, 1<<bits-1)
	}
	e := New(64, api.Modes{Mouse: 1003, Focus: true, Paste: true})
	for i, n := range nums {
		New(n, api.Modes{Mouse: n, Coding: n, Other: n})
		New(64, api.Modes{Mouse: nums[len(nums)-1-i], Coding: n, Other: n})
		for kind := -1; kind < 9; kind++ {
			s := Step{Kind: kind, Key: api.Key{Code: n, Mods: n, Type: n, Shifted: n, Base: n, Text: "\xff"}, Mouse: api.Mouse{Button: n, Type: n, X: n, Y: n, Mods: n}, Data: "\x1b[6n\xff\x1bP$qm\x1b\\\x1bP$qr\x1b\\", N: n}
			s.Screen = api.Screen{Rows: n, Cols: n, Row: n, Col: n, Top: n, Bottom: n, Left: n, Right: n, Shape: n, Style: api.Style{Under: n, Fore: n, Back: n}}
			e.Do(s)
			Run(e, []Step{s, {Kind: n}, hosts("\x1b[6n\x1bP$qm\x1b\\\x1bP$q q\x1b\\"), s})
			e.Do(Step{Kind: n, Data: "\x1b[c"})
		}
	}
	Run(e, []Step{pastes(strings.Repeat("\x1b[201~", 1<<16)), hosts(strings.Repeat("\x1b[c", 1<<14)), hosts(strings.Repeat("\x1bP", 1<<16))})
}
