package act

import (
	"maps"
	"math"
	"slices"
	"strings"
	"testing"

	"clavier/api"
	"clavier/caps"
	"clavier/modes"
	"clavier/report"
	"clavier/save"
	"clavier/stack"
	"clavier/wire"
)

// The calls are as the chapter has them, and so is a state.
var (
	_ func(State, api.Screen, api.Seq) (State, []api.Seq, bool) = Do
	_ func(a, b State) bool                                     = Same
	_ struct {
		Modes api.Modes
		Saved save.Saved
		Stack stack.Stack
	} = State{}
)

// want is Do, by the chapter's words, row by row.
func want(s State, f api.Screen, q api.Seq) (State, []api.Seq, bool) {
	number := func(i, otherwise int) int {
		if i < len(q.Params) && len(q.Params[i]) > 0 && q.Params[i][0] >= 0 {
			return q.Params[i][0]
		}
		return otherwise
	}
	var each []int
	for i := range q.Params {
		each = append(each, number(i, -1))
	}
	of := func(privates, inter, finals string) bool {
		return q.Kind == api.CSI && strings.IndexByte(privates, q.Private) >= 0 && q.Inter == inter && strings.IndexByte(finals, q.Final) >= 0
	}
	change := func(change func(s *State)) (State, []api.Seq, bool) {
		s.Stack.Kept = append([]int{}, s.Stack.Kept...)
		change(&s)
		return s, nil, true
	}
	answer := func(is bool, reply api.Seq) (State, []api.Seq, bool) {
		if !is {
			return s, nil, true
		}
		return s, []api.Seq{reply}, true
	}
	switch {
	case of("\x00?", "", "hl"):
		return change(func(s *State) {
			for _, n := range each {
				s.Modes, _ = modes.Set(s.Modes, q.Private == '?', n, q.Final == 'h')
			}
		})
	case of("?", "", "s"):
		return change(func(s *State) { s.Saved = save.Save(s.Saved, s.Modes, each) })
	case of("?", "", "r"):
		return change(func(s *State) { s.Modes = save.Restore(s.Saved, s.Modes, each) })
	case of(">", "", "m"):
		return change(func(s *State) {
			if number(0, -1) == 4 && slices.Contains([]int{0, 1, 2}, number(1, 0)) {
				s.Modes.Other = number(1, 0)
			}
		})
	case of(">", "", "n"):
		return change(func(s *State) {
			if number(0, -1) == 4 {
				s.Modes.Other = 0
			}
		})
	case of("\x00>=", "", "c"):
		return answer(number(0, 0) == 0, report.Attributes(q.Private))
	case of("\x00", "", "n") && number(0, -1) == 5:
		return answer(true, report.Fine())
	case of("\x00?", "", "n"):
		return answer(number(0, -1) == 6, report.Place(f, q.Private == '?'))
	case of("\x00?", "$", "p"):
		return answer(true, report.Mode(s.Modes, q.Private == '?', number(0, 0)))
	case of("\x00", "!", "p"):
		return change(func(s *State) {
			s.Modes.Cursor = false
			s.Modes.Keypad = false
			s.Modes.Lock = false
			s.Modes.Line = false
		})
	case of(">", "", "q"):
		return answer(number(0, 0) == 0, report.Version())
	case of("?", "", "u"):
		return answer(true, report.Flags(s.Stack.Now))
	case of(">", "", "u"):
		return change(func(s *State) { s.Stack = stack.Push(s.Stack, number(0, 0)) })
	case of("<", "", "u"):
		return change(func(s *State) { s.Stack = stack.Pop(s.Stack, number(0, 1)) })
	case of("=", "", "u"):
		return change(func(s *State) { s.Stack = stack.Put(s.Stack, number(0, 0), number(1, 1)) })
	case q.Kind == api.ESC && q.Inter == "" && q.Private == 0 && strings.IndexByte("=>", q.Final) >= 0:
		return change(func(s *State) { s.Modes.Keypad = q.Final == '=' })
	case q.Kind == api.ESC && q.Inter == "" && q.Private == 0 && q.Final == 'c':
		return State{}, nil, true
	case q.Kind == api.DCS && q.Private == 0 && len(q.Params) == 0 && q.Final == 'q' && q.Inter == "$":
		return answer(true, report.Setting(f, q.Data))
	case q.Kind == api.DCS && q.Private == 0 && len(q.Params) == 0 && q.Final == 'q' && q.Inter == "+":
		return answer(true, caps.Answer(q.Data))
	}
	return s, nil, false
}

// equal is Same, written out.
func equal(a, b State) bool {
	if len(a.Stack.Kept) != len(b.Stack.Kept) {
		return false
	}
	for i := range a.Stack.Kept {
		if a.Stack.Kept[i] != b.Stack.Kept[i] {
			return false
		}
	}
	return a.Modes == b.Modes && a.Saved == b.Saved && a.Stack.Now == b.Stack.Now
}

// copyOf is a state like s, in memory of its own.
func copyOf(s State) State {
	s.Stack.Kept = append([]int{}, s.Stack.Kept...)
	return s
}

// copyOfSeq is a sequence like q, in memory of its own.
func copyOfSeq(q api.Seq) api.Seq {
	params := make([][]int, len(q.Params))
	for i, p := range q.Params {
		params[i] = append([]int{}, p...)
	}
	q.Params = params
	return q
}

// expect ends the test, if Do answers anything else than this.
func expect(t *testing.T, s State, f api.Screen, q api.Seq, then State, replies []api.Seq, known bool) (State, []api.Seq) {
	t.Helper()
	got, told, ok := Do(s, f, q)
	if !equal(got, then) || ok != known || !slices.EqualFunc(told, replies, wire.Same) {
		t.Fatalf("Do(%+v, %+v, %+v) = %+v, %+v, %v, not %+v, %+v, %v", s, f, q, got, told, ok, then, replies, known)
	}
	if !Same(got, then) {
		t.Fatalf("%+v and %+v are not the same", got, then)
	}
	return got, told
}

// check holds an answer against the chapter, and against what follows of it.
func check(t *testing.T, s State, f api.Screen, q api.Seq) {
	t.Helper()
	then, replies, known := want(s, f, q)
	got, told := expect(t, s, f, q, then, replies, known)
	if (!known || len(told) > 0) && !equal(got, s) {
		t.Fatalf("%+v changes %+v to %+v", q, s, got)
	}
	if modes.May(s.Modes) && !modes.May(got.Modes) {
		t.Fatalf("%+v changes %+v to %+v, which may not be", q, s.Modes, got.Modes)
	}
	if len(told) == 0 {
		return
	}
	b, err := wire.Put(told[0])
	back, n, _ := wire.Take(b)
	if len(told) > 1 || err != api.OK || n != len(b) || !wire.Same(back, told[0]) {
		t.Fatalf("%+v is answered by %+v: %d", q, told, err)
	}
}

// seq is the sequence of these bytes, behind an escape byte.
func seq(t *testing.T, text string) api.Seq {
	t.Helper()
	s, n, err := wire.Take([]byte("\x1b" + text))
	if err != api.OK || n != len(text)+1 {
		t.Fatalf("%q is no sequence", text)
	}
	return s
}

// full has all modes set that can be set at once, each mode saved as set or reset, and some flags kept.
func full() State {
	return State{
		Modes: api.Modes{Cursor: true, Keypad: true, Back: true, Focus: true, Paste: true, Lock: true, Line: true, Mouse: 1002, Coding: 1015, Other: 2},
		Saved: save.Saved{2, 2, 1, 2, 1, 2, 1, 2, 1, 2, 1, 2},
		Stack: stack.Stack{Now: 21, Kept: []int{1, 2, 4, 8, 16}},
	}
}

// keeping is a stack that keeps n flags.
func keeping(n int) stack.Stack {
	kept := make([]int, n)
	for i := range kept {
		kept[i] = (i*7 + 3) % 32
	}
	return stack.Stack{Now: (n*7 + 3) % 32, Kept: kept}
}

// states are of all kinds; some have what may not be.
func states() []State {
	l := []State{
		{}, full(),
		{Modes: api.Modes{Cursor: true, Paste: true}, Saved: save.Saved{1, 0, 2, 0, 0, 1, 0, 0, 0, 0, 2, 1}, Stack: keeping(8)},
		{Modes: api.Modes{Mouse: 9, Other: 1}, Saved: save.Saved{11: 2}, Stack: keeping(9)},
		{Modes: api.Modes{Mouse: 1003, Coding: 1005, Line: true}, Saved: save.Saved{1, 1, 1, 1, 1, 1, 1, 1, 1, 1, 1, 1}, Stack: stack.Stack{Now: 31}},
		{Modes: api.Modes{Mouse: 1001, Coding: -1, Other: 3}, Saved: save.Saved{3, 255, 1, 2, 0, 9}, Stack: stack.Stack{Now: 40, Kept: []int{-1, 64, math.MaxInt}}},
		{Modes: api.Modes{Mouse: math.MinInt, Coding: math.MaxInt, Other: -7, Keypad: true, Lock: true}, Stack: stack.Stack{Now: math.MinInt, Kept: make([]int, 20)}},
	}
	for n := range 10 {
		l = append(l, State{Modes: api.Modes{Other: n % 3}, Stack: keeping(n)})
	}
	return l
}

// screens are of all kinds of facts, and with styles that may be and that may not.
func screens() []api.Screen {
	return []api.Screen{
		{Rows: 24, Cols: 80, Row: 3, Col: 4, Top: 1, Bottom: 24, Left: 2, Right: 79, Shape: 5, Style: api.Style{Bold: true, Fore: 1, Back: -1}},
		{},
		{Rows: -1, Cols: -2, Row: -3, Col: -4, Top: -5, Bottom: -6, Left: -7, Right: -8, Shape: -9, Style: api.Style{Under: -1}},
		{Rows: 70000, Cols: 70001, Row: 70002, Col: math.MaxInt, Top: math.MinInt, Bottom: 70005, Left: 70006, Right: 70007, Shape: 70008, Style: api.Style{Fore: 300, Back: 16777471}},
	}
}

// P21.1: what changes something, written out: only what the row names is another one then.
func TestChangeRows(t *testing.T) {
	with := func(s State, change func(*State)) State {
		s = copyOf(s)
		change(&s)
		return s
	}
	zero := State{}
	keptFrom := func(now int, kept ...int) func(*State) {
		return func(s *State) { s.Stack = stack.Stack{Now: now, Kept: kept} }
	}
	same := func(*State) {}
	for _, r := range []struct {
		s      State
		text   string
		change func(*State)
	}{
		{zero, "[2h", func(s *State) { s.Modes.Lock = true }},
		{zero, "[20h", func(s *State) { s.Modes.Line = true }},
		{zero, "[2;20h", func(s *State) { s.Modes.Lock, s.Modes.Line = true, true }},
		{zero, "[99;2;;4;20h", func(s *State) { s.Modes.Lock, s.Modes.Line = true, true }},
		{zero, "[2:20h", func(s *State) { s.Modes.Lock = true }},
		{zero, "[:2;20:2h", func(s *State) { s.Modes.Line = true }},
		{zero, "[1h", same}, {zero, "[h", same}, {zero, "[;h", same}, {zero, "[2004h", same}, {zero, "[4h", same},
		{full(), "[2l", func(s *State) { s.Modes.Lock = false }},
		{full(), "[20l", func(s *State) { s.Modes.Line = false }},
		{full(), "[12;20;2;1l", func(s *State) { s.Modes.Lock, s.Modes.Line = false, false }},
		{full(), "[1l", same}, {full(), "[l", same},
		{zero, "[?2004h", func(s *State) { s.Modes.Paste = true }},
		{zero, "[?1h", func(s *State) { s.Modes.Cursor = true }},
		{zero, "[?66h", func(s *State) { s.Modes.Keypad = true }},
		{zero, "[?67h", func(s *State) { s.Modes.Back = true }},
		{zero, "[?1004h", func(s *State) { s.Modes.Focus = true }},
		{zero, "[?1000;1006h", func(s *State) { s.Modes.Mouse, s.Modes.Coding = 1000, 1006 }},
		{zero, "[?1000;1003h", func(s *State) { s.Modes.Mouse = 1003 }},
		{zero, "[?1003;1000h", func(s *State) { s.Modes.Mouse = 1000 }},
		{zero, "[?25;1;7;999;66;;2004h", func(s *State) { s.Modes.Cursor, s.Modes.Keypad, s.Modes.Paste = true, true, true }},
		{zero, "[?2h", same}, {zero, "[?20h", same}, {zero, "[?h", same}, {zero, "[?25h", same},
		{full(), "[?2004l", func(s *State) { s.Modes.Paste = false }},
		{full(), "[?1002l", func(s *State) { s.Modes.Mouse = 0 }},
		{full(), "[?1000l", same},
		{full(), "[?1;1015;1004l", func(s *State) { s.Modes.Cursor, s.Modes.Focus, s.Modes.Coding = false, false, 0 }},
		{full(), "[?2;20l", same},
		{zero, "[?1s", func(s *State) { s.Saved[0] = 2 }},
		{State{Modes: api.Modes{Paste: true, Mouse: 1000}}, "[?2004;1000;1002;25;2;;3s", func(s *State) { s.Saved = save.Saved{4: 1, 5: 2, 11: 1} }},
		{full(), "[?s", same},
		{full(), "[?1r", func(s *State) { s.Modes.Cursor = false }},
		{full(), "[?1;66;67;2004r", func(s *State) { s.Modes.Cursor, s.Modes.Back, s.Modes.Paste = false, false, false }},
		{State{Saved: save.Saved{4: 1, 6: 1}}, "[?1000;1003r", func(s *State) { s.Modes.Mouse = 1003 }},
		{State{Saved: save.Saved{4: 1, 6: 1}}, "[?1003;1000r", func(s *State) { s.Modes.Mouse = 1000 }},
		{State{Modes: api.Modes{Cursor: true, Paste: true}, Saved: save.Saved{11: 2}}, "[?1;2004;25;2r", func(s *State) { s.Modes.Paste = false }},
		{full(), "[?r", same},
		{zero, "[>4;1m", func(s *State) { s.Modes.Other = 1 }},
		{zero, "[>4;2m", func(s *State) { s.Modes.Other = 2 }},
		{zero, "[>4:9;2:1m", func(s *State) { s.Modes.Other = 2 }},
		{zero, "[>4;2;7m", func(s *State) { s.Modes.Other = 2 }},
		{full(), "[>4;0m", func(s *State) { s.Modes.Other = 0 }},
		{full(), "[>4m", func(s *State) { s.Modes.Other = 0 }},
		{full(), "[>4;m", func(s *State) { s.Modes.Other = 0 }},
		{full(), "[>4;1m", func(s *State) { s.Modes.Other = 1 }},
		{full(), "[>4;3m", same}, {full(), "[>4;4m", same}, {full(), "[>4;65535m", same}, {full(), "[>m", same}, {full(), "[>;1m", same}, {full(), "[>0;1m", same}, {full(), "[>3;1m", same}, {full(), "[>5;1m", same}, {full(), "[>1;4m", same},
		{full(), "[>4n", func(s *State) { s.Modes.Other = 0 }},
		{full(), "[>4;1n", func(s *State) { s.Modes.Other = 0 }},
		{full(), "[>n", same}, {full(), "[>;4n", same}, {full(), "[>0n", same}, {full(), "[>5n", same}, {full(), "[>6n", same},
		{full(), "[!p", func(s *State) {
			s.Modes = api.Modes{Back: true, Focus: true, Paste: true, Mouse: 1002, Coding: 1015, Other: 2}
		}},
		{full(), "[1;2!p", func(s *State) {
			s.Modes = api.Modes{Back: true, Focus: true, Paste: true, Mouse: 1002, Coding: 1015, Other: 2}
		}},
		{zero, "[!p", same},
		{zero, "[>5u", keptFrom(5, 0)},
		{zero, "[>u", keptFrom(0, 0)},
		{zero, "[>33;7u", keptFrom(1, 0)},
		{full(), "[>;3u", keptFrom(0, 1, 2, 4, 8, 16, 21)},
		{full(), "[>1:2u", keptFrom(1, 1, 2, 4, 8, 16, 21)},
		{State{Stack: keeping(8)}, "[>9u", keptFrom(9, append(keeping(8).Kept[1:], keeping(8).Now)...)},
		{full(), "[<u", keptFrom(16, 1, 2, 4, 8)},
		{full(), "[<1u", keptFrom(16, 1, 2, 4, 8)},
		{full(), "[<;2u", keptFrom(16, 1, 2, 4, 8)},
		{full(), "[<2u", keptFrom(8, 1, 2, 4)},
		{full(), "[<5u", keptFrom(1)},
		{full(), "[<6u", keptFrom(0)},
		{full(), "[<0u", same},
		{full(), "[<65535u", keptFrom(0)},
		{full(), "[=8u", keptFrom(8, 1, 2, 4, 8, 16)},
		{full(), "[=8;1u", keptFrom(8, 1, 2, 4, 8, 16)},
		{full(), "[=8;2u", keptFrom(29, 1, 2, 4, 8, 16)},
		{full(), "[=5;3u", keptFrom(16, 1, 2, 4, 8, 16)},
		{full(), "[=;3u", same},
		{full(), "[=u", keptFrom(0, 1, 2, 4, 8, 16)},
		{full(), "[=;u", keptFrom(0, 1, 2, 4, 8, 16)},
		{full(), "[=8;0u", same}, {full(), "[=8;4u", same},
		{zero, "=", func(s *State) { s.Modes.Keypad = true }},
		{full(), "=", same},
		{full(), ">", func(s *State) { s.Modes.Keypad = false }},
		{zero, ">", same},
		{full(), "c", func(s *State) { *s = State{} }},
		{zero, "c", same},
	} {
		q := seq(t, r.text)
		for _, f := range screens() {
			expect(t, r.s, f, q, with(r.s, r.change), nil, true)
			check(t, r.s, f, q)
		}
	}
}

// P21.1: what is answered, written out; an empty text: nothing is.
func TestAnswerRows(t *testing.T) {
	on := State{Modes: api.Modes{Lock: true, Cursor: true, Paste: true, Mouse: 1003}, Stack: stack.Stack{Now: 5, Kept: []int{1}}}
	for _, r := range []struct{ text, want string }{
		{"[c", "[?62;22c"}, {"[0c", "[?62;22c"}, {"[;1c", "[?62;22c"}, {"[0:1c", "[?62;22c"}, {"[1c", ""}, {"[62c", ""},
		{"[>c", "[>41;1;0c"}, {"[>0c", "[>41;1;0c"}, {"[>0;5c", "[>41;1;0c"}, {"[>1c", ""},
		{"[=c", "P!|00000000\x1b\\"}, {"[=0c", "P!|00000000\x1b\\"}, {"[=;c", "P!|00000000\x1b\\"}, {"[=1c", ""}, {"[=65535c", ""},
		{"[5n", "[0n"}, {"[5;6n", "[0n"}, {"[5:6n", "[0n"}, {"[6n", "[3;4R"}, {"[6;5n", "[3;4R"}, {"[n", ""}, {"[0n", ""}, {"[;6n", ""}, {"[4n", ""}, {"[7n", ""}, {"[56n", ""},
		{"[?6n", "[?3;4;1R"}, {"[?6;1n", "[?3;4;1R"}, {"[?5n", ""}, {"[?n", ""}, {"[?;6n", ""}, {"[?15n", ""},
		{"[2$p", "[2;1$y"}, {"[20$p", "[20;2$y"}, {"[4$p", "[4;4$y"}, {"[1$p", "[1;0$y"}, {"[$p", "[0;0$y"}, {"[;2$p", "[0;0$y"}, {"[2;20$p", "[2;1$y"}, {"[2:20$p", "[2;1$y"},
		{"[?1$p", "[?1;1$y"}, {"[?66$p", "[?66;2$y"}, {"[?1003$p", "[?1003;1$y"}, {"[?1000$p", "[?1000;2$y"}, {"[?25$p", "[?25;3$y"}, {"[?2$p", "[?2;0$y"}, {"[?$p", "[?0;0$y"}, {"[?2004;1$p", "[?2004;1$y"}, {"[?65536$p", "[?65535;0$y"},
		{"[>q", "P>|clavier(1)\x1b\\"}, {"[>0q", "P>|clavier(1)\x1b\\"}, {"[>;1q", "P>|clavier(1)\x1b\\"}, {"[>1q", ""}, {"[>65535q", ""},
		{"[?u", "[?5u"}, {"[?1u", "[?5u"}, {"[?1;2u", "[?5u"},
		{"P$qm\x1b\\", "P1$r0;1;31m\x1b\\"}, {"P$qr\x1b\\", "P1$r1;24r\x1b\\"}, {"P$qs\x1b\\", "P1$r2;79s\x1b\\"}, {"P$q q\x1b\\", "P1$r5 q\x1b\\"}, {"P$q\"p\x1b\\", "P1$r62;1\"p\x1b\\"}, {"P$q\x1b\\", "P0$r\x1b\\"}, {"P$qx\x1b\\", "P0$r\x1b\\"}, {"P$q544E\x1b\\", "P0$r\x1b\\"},
		{"P+q544E\x1b\\", "P1+r544E=636C6176696572\x1b\\"}, {"P+q6b6273;436F\x1b\\", "P1+r6B6273=7F;436F=323536\x1b\\"}, {"P+q\x1b\\", "P0+r\x1b\\"}, {"P+q00\x1b\\", "P0+r\x1b\\"}, {"P+qm\x1b\\", "P0+r\x1b\\"},
	} {
		var replies []api.Seq
		if r.want != "" {
			replies = append(replies, seq(t, r.want))
		}
		expect(t, on, screens()[0], seq(t, r.text), on, replies, true)
		for _, s := range states() {
			for _, f := range screens() {
				check(t, s, f, seq(t, r.text))
			}
		}
	}
}

// P21.1, P21.3: what isn't known, written out, changes nothing, and isn't answered.
func TestUnknownRows(t *testing.T) {
	for _, text := range []string{
		"[A", "[1;2A", "[1J", "[m", "[4;1m", "[s", "[1s", "[r", "[1;24r", "[u", "[1u", "[q", "[0q", "[p", "[!c", "[?c", "[?0c", "[<c", "[?m", "[?4;1m", "[<m", "[=m",
		"[>h", "[>4h", "[=2h", "[<2h", "[>l", "[=1l", "[<4n", "[=6n", "[>s", "[>r", "[<1r", "[=1s", "[?q", "[?0q", "[=q", "[<q",
		"[>$p", "[=2$p", "[<2$p", "[?!p", "[>!p", "[2$$p", "[2$!p", "[2!$p", "[2+p", "[2 p", "[\"p", "[?1$h", "[2!h", "[5 n", "[0$c", "[>4$m", "[>5$u", "[? u", "[>0+q", "[?1+s", "[?1$r", "[2$h",
		"[2H", "[2L", "[?2004H", "[?2004i", "[?2004$y", "[?1;2$y", "[3;4R", "[0x", "[200~", "[I",
		"Oc", "OA", "Op", "]0;x\x1b\\", "]h\x1b\\",
		"7", "8", "D", "M", "Z", "h", "l", "<", "?", "$c", "+c", " c", "!=", "$>", "#8", "(B", "C", "q", "n",
		"Pq\x1b\\", "P!q\x1b\\", "P q\x1b\\", "P$$qm\x1b\\", "P+$qm\x1b\\", "P$+q544E\x1b\\", "P++q544E\x1b\\", "P$pm\x1b\\", "P$rm\x1b\\", "P+p544E\x1b\\", "P+r544E\x1b\\",
		"P0$qm\x1b\\", "P1$qm\x1b\\", "P;$qm\x1b\\", "P0+q544E\x1b\\", "P1+q544E\x1b\\", "P1;2+q544E\x1b\\", "P0:1+q544E\x1b\\", "P?$qm\x1b\\", "P>$qm\x1b\\", "P=+q544E\x1b\\", "P<+q544E\x1b\\", "P>0$qm\x1b\\", "P>|x\x1b\\", "P1$r0m\x1b\\", "P0+r\x1b\\",
	} {
		q := seq(t, text)
		for _, s := range states() {
			for _, f := range screens() {
				expect(t, s, f, q, s, nil, false)
				check(t, s, f, q)
			}
		}
	}
}

// paramLists are parameters of all kinds.
func paramLists() [][][]int {
	l := [][][]int{
		nil, {}, {nil}, {{}}, {{}, {}}, {{-1}}, {{-1}, {-1}}, {{-1}, {4}}, {{}, {2}}, {nil, {1}, {2}},
		{{4}, {-1}}, {{4}, {}}, {{4}, {math.MinInt}}, {{4}, {math.MaxInt}}, {{4}, {1 << 32}}, {{4}, {1<<32 + 1}},
		{{2}, {20}, {4}, {12}, {1}}, {{1}, {2}, {66}, {67}, {25}, {7}, {1004}, {2004}, {-1}, {}, {3}},
		{{9}, {1000}, {1002}, {1003}, {1005}, {1006}, {1015}}, {{1015}, {1006}, {1005}, {1003}, {1002}, {1000}, {9}}, {{1000}, {2004}, {1006}}, {{1000, 1003}, {2004, 1}, {-1, 1006}, {1, -1}},
		{{4, 1}, {2, 0}}, {{-1, 4}, {-1, 1}}, {{6, 5}}, {{5, 6}}, {{0, 1}}, {{0}, {1}, {2}}, {{1, 0}},
		make([][]int, 40),
	}
	for _, n := range numbersOfAllKinds() {
		l = append(l, [][]int{{n}}, [][]int{{n}, {n}}, [][]int{{4}, {n}}, [][]int{{n}, {1}}, [][]int{{n}, {2}}, [][]int{{n}, {3}}, [][]int{{31}, {n}}, [][]int{{}, {n}}, [][]int{{2004}, {n}, {1}}, [][]int{{n, 4}})
	}
	return l
}

// numbersOfAllKinds are those that matter, those beside them, those that would be one if they wrapped round, and very small and very great ones.
func numbersOfAllKinds() []int {
	l := []int{
		math.MinInt, math.MinInt + 4, math.MinInt32, -65536, -256, -4, -2, -1,
		7, 8, 9, 10, 12, 15, 16, 20, 21, 25, 31, 32, 33, 37, 40, 63, 64, 66, 67, 255, 256, 258, 260, 261, 262, 1000, 1001, 1002, 1003, 1004, 1005, 1006, 1015, 2004, 2005,
		65534, 65535, 65536, 65538, 65540, 65541, 65542, 1114111, 1114112, math.MaxInt32, 1 << 31, 1<<32 + 4, 1<<32 + 5, 1<<32 + 6, 1<<32 + 2004, math.MaxInt - 1, math.MaxInt,
	}
	for n := range 7 {
		l = append(l, n)
	}
	return l
}

// datas are what is asked by strings, of all kinds.
func datas() []string {
	return []string{"", "m", "r", "s", " q", "\"p", "x", "mm", "544E", "544e;436F", "6b6273", "544E;", "544", "00", "\xff", "\x1b", "é", strings.Repeat("6B6273;", 300) + "436F", strings.Repeat("6B6273;", 900) + "436F", strings.Repeat("m", 5000)}
}

// finals are those that some row names.
const finals = "chlmnpqrsu=>"

// P21.1: each row of the list, with parameters of all kinds, and others beside it: other kinds, Privates and Inters.
func TestRowsWithParameters(t *testing.T) {
	l, f := states(), screens()[0]
	for i, params := range paramLists() {
		for _, kind := range []int{api.CSI, api.ESC, api.DCS} {
			for _, private := range []byte{0, '<', '=', '>', '?'} {
				for _, inter := range []string{"", "$", "!", "+"} {
					for j := range finals {
						q := api.Seq{Kind: kind, Private: private, Params: params, Inter: inter, Final: finals[j]}
						check(t, l[(i+j)%len(l)], f, q)
					}
				}
			}
		}
	}
}

// P21.1: the CSIs of the list, with parameters of all kinds, in all states, on all screens.
func TestRowsInAllStates(t *testing.T) {
	for _, params := range paramLists() {
		for _, r := range []struct {
			privates     []byte
			inter, final string
		}{
			{[]byte{0, '?'}, "", "h"}, {[]byte{0, '?'}, "", "l"}, {[]byte{'?'}, "", "s"}, {[]byte{'?'}, "", "r"}, {[]byte{'>'}, "", "m"}, {[]byte{'>'}, "", "n"},
			{[]byte{0, '>', '='}, "", "c"}, {[]byte{0, '?'}, "", "n"}, {[]byte{0, '?'}, "$", "p"}, {[]byte{0}, "!", "p"}, {[]byte{'>'}, "", "q"}, {[]byte{'?', '>', '<', '='}, "", "u"},
		} {
			for _, private := range r.privates {
				q := api.Seq{Kind: api.CSI, Private: private, Params: params, Inter: r.inter, Final: r.final[0]}
				for i, s := range states() {
					check(t, s, screens()[i%len(screens())], q)
				}
			}
		}
	}
}

// P21.1, P21.3: all Finals, with Privates, Inters and kinds of all kinds: just those of the list are known.
func TestEachSequence(t *testing.T) {
	s, f := full(), screens()[0]
	known := map[string]bool{}
	for kind := -1; kind <= 7; kind++ {
		for _, private := range []byte{0, ';', '<', '=', '>', '?', '@', '!', '$', 'c', 255} {
			for _, inter := range []string{"", "$", "!", "+", " ", "\"", "#", "$$", "$!", "+$", "++", "!!", "\x00", "?", "$\x00"} {
				for final := range 256 {
					q := api.Seq{Kind: kind, Private: private, Inter: inter, Final: byte(final)}
					check(t, s, f, q)
					if _, _, ok := Do(s, f, q); ok {
						known[string([]byte{byte(kind), private})+inter+string([]byte{byte(final)})] = true
					}
				}
			}
		}
	}
	// 4 of h and l, s and r, m and n with >, 3 of c, 2 of n, 2 of $ p, ! p, > q, 4 of u, 3 ESC, 2 DCS.
	if len(known) != 4+2+2+3+2+2+1+1+4+3+2 {
		t.Errorf("%d are known: %q", len(known), slices.Collect(maps.Keys(known)))
	}
}

// P21.1: kinds that would be one if they wrapped round.
func TestOtherKinds(t *testing.T) {
	for _, kind := range []int{api.CSI, api.DCS, api.ESC} {
		for _, add := range []int{8, 256, 65536, 1 << 31, 1 << 32, math.MinInt, -8, -256, -1 << 32} {
			for j := range finals {
				for _, private := range []byte{0, '<', '=', '>', '?'} {
					for _, inter := range []string{"", "$", "!", "+"} {
						q := api.Seq{Kind: kind + add, Private: private, Inter: inter, Final: finals[j]}
						check(t, full(), screens()[0], q)
						expect(t, full(), screens()[0], q, full(), nil, false)
					}
				}
			}
		}
	}
}

// P21.1: what is asked by strings, with parameters, Privates and Inters of all kinds, on all screens.
func TestStrings(t *testing.T) {
	for _, data := range datas() {
		for _, f := range screens() {
			for _, params := range [][][]int{nil, {}, {nil}, {{}}, {{-1}}, {{0}}, {{1}}, {{0}, {0}}, make([][]int, 17)} {
				for _, private := range []byte{0, '<', '=', '>', '?'} {
					for _, inter := range []string{"", "$", "+", "!", "$+", "++", "$$"} {
						for _, final := range []byte("pqr|{") {
							for _, kind := range []int{api.DCS, api.OSC, api.CSI} {
								check(t, full(), f, api.Seq{Kind: kind, Private: private, Params: params, Inter: inter, Final: final, Data: data})
							}
						}
					}
				}
			}
		}
	}
}

// P21.1: a sequence is what its Private, Inter and Final say, whatever Data it has besides; so is an ESC with parameters.
func TestWhatIsntAsked(t *testing.T) {
	for _, data := range []string{"", "x", "m", "544E"} {
		for _, text := range []string{"[?2004l", "[2l", "[>4;1m", "[6n", "[c", "[2$p", "[!p", "[>q", "[?u", "[<u"} {
			q := seq(t, text)
			one, replies, ok := Do(full(), screens()[0], q)
			q.Data = data
			expect(t, full(), screens()[0], q, one, replies, ok)
			check(t, full(), screens()[0], q)
		}
		for _, final := range []byte("=>c") {
			for _, params := range paramLists()[:20] {
				q := api.Seq{Kind: api.ESC, Params: params, Final: final, Data: data}
				one, replies, ok := Do(full(), screens()[0], api.Seq{Kind: api.ESC, Final: final})
				expect(t, full(), screens()[0], q, one, replies, ok)
				check(t, full(), screens()[0], q)
			}
		}
	}
}

// P21.1: modes that are set, saved, reset and restored, one after the other.
func TestSaveAndRestore(t *testing.T) {
	f := screens()[0]
	run := func(s State, texts ...string) State {
		for _, text := range texts {
			check(t, s, f, seq(t, text))
			s, _, _ = Do(s, f, seq(t, text))
		}
		return s
	}
	if s := run(State{}, "[?2004;1000;1006h", "[?2004;1000;1006;1s", "[?2004;1000;1006l", "[?1h", "[?1;2004;1000;1006r"); s.Modes != (api.Modes{Paste: true, Mouse: 1000, Coding: 1006}) {
		t.Errorf("%+v", s.Modes)
	}
	if s := run(State{}, "[?2004s", "[?2004h", "[?2004r"); s.Modes != (api.Modes{}) {
		t.Errorf("%+v", s.Modes)
	}
	if s := run(State{}, "[?2004h", "[?2004r"); s.Modes != (api.Modes{Paste: true}) {
		t.Errorf("what was never saved is restored: %+v", s.Modes)
	}
	if s := run(State{}, "[?1h", "[?1s", "c", "[?1r"); !equal(s, State{}) {
		t.Errorf("%+v", s)
	}
	if s := run(full(), "c"); s.Stack.Kept != nil && len(s.Stack.Kept) > 0 {
		t.Errorf("%+v", s)
	}
}

// P21.1, P21.3: long runs of all kinds, each step from the state that the one ahead of it has left.
func TestRuns(t *testing.T) {
	seed := uint32(21)
	next := func(n int) int {
		seed = seed*1664525 + 1013904223
		return int(seed>>8) % n
	}
	texts := []string{"[h", "[l", "[?h", "[?l", "[?s", "[?r", "[>m", "[>n", "[c", "[>c", "[=c", "[n", "[?n", "[$p", "[?$p", "[!p", "[>q", "[?u", "[>u", "[<u", "[=u", "=", ">", "c", "[A", "[?J", "P$qm\x1b\\", "P+q544E\x1b\\"}
	nums := []int{-1, 0, 1, 2, 3, 4, 5, 6, 9, 20, 25, 31, 66, 67, 1000, 1002, 1003, 1004, 1005, 1006, 1015, 2004, 70000}
	s, may, answered, changed := State{}, 0, 0, 0
	for step := range 60000 {
		q := seq(t, texts[next(len(texts))])
		if q.Kind == api.ESC && q.Final == 'c' && next(20) > 0 {
			continue
		}
		for range next(5) {
			if q.Kind == api.CSI {
				q.Params = append(q.Params, []int{nums[next(len(nums))]})
			}
		}
		f := screens()[step%len(screens())]
		check(t, s, f, q)
		then, told, _ := Do(s, f, q)
		answered += len(told)
		if !equal(s, then) {
			changed++
		}
		s = then
		if modes.May(s.Modes) {
			may++
		}
	}
	if may < 50000 || answered < 5000 || changed < 5000 {
		t.Errorf("%d may be, %d were answered, %d changed", may, answered, changed)
	}
}

// variants are states that differ from s in one place alone, each in another one.
func variants(s State) []State {
	l := []State{}
	add := func(change func(s *State)) {
		other := copyOf(s)
		change(&other)
		l = append(l, other)
	}
	add(func(s *State) { s.Modes.Cursor = !s.Modes.Cursor })
	add(func(s *State) { s.Modes.Keypad = !s.Modes.Keypad })
	add(func(s *State) { s.Modes.Back = !s.Modes.Back })
	add(func(s *State) { s.Modes.Focus = !s.Modes.Focus })
	add(func(s *State) { s.Modes.Paste = !s.Modes.Paste })
	add(func(s *State) { s.Modes.Lock = !s.Modes.Lock })
	add(func(s *State) { s.Modes.Line = !s.Modes.Line })
	for _, by := range []int{1, -1, 7, 256, 1 << 32} {
		add(func(s *State) { s.Modes.Mouse += by })
		add(func(s *State) { s.Modes.Coding += by })
		add(func(s *State) { s.Modes.Other += by })
		add(func(s *State) { s.Stack.Now += by })
	}
	for place := range 12 {
		add(func(s *State) { s.Saved[place]++ })
		add(func(s *State) { s.Saved[place] ^= 128 })
	}
	add(func(s *State) { s.Stack.Kept = append(s.Stack.Kept, 0) })
	add(func(s *State) { s.Stack.Kept = append(s.Stack.Kept, 9) })
	add(func(s *State) { s.Stack.Kept = append([]int{0, 3}, s.Stack.Kept...) })
	for i := range s.Stack.Kept {
		add(func(s *State) { s.Stack.Kept[i]++ })
		add(func(s *State) { s.Stack.Kept[i] += 1 << 32 })
		if i == 0 {
			add(func(s *State) { s.Stack.Kept = s.Stack.Kept[:len(s.Stack.Kept)-1] })
		}
	}
	return l
}

// P21.2: two are the same just if all in both is.
func TestSame(t *testing.T) {
	for _, s := range states() {
		if !Same(s, copyOf(s)) || !Same(copyOf(s), s) || !Same(s, s) {
			t.Errorf("%+v is not the same as itself", s)
		}
		for _, other := range variants(s) {
			if Same(s, other) || Same(other, s) {
				t.Errorf("%+v and %+v are the same", s, other)
			}
			if !Same(other, copyOf(other)) {
				t.Errorf("%+v is not the same as itself", other)
			}
		}
		for _, other := range states() {
			if got := Same(s, other); got != equal(s, other) {
				t.Errorf("Same(%+v, %+v) = %v", s, other, got)
			}
		}
	}
	nothing := [][]int{nil, {}, make([]int, 0, 5), []int{1, 2}[:0]}
	for _, a := range nothing {
		for _, b := range nothing {
			if !Same(State{Stack: stack.Stack{Now: 3, Kept: a}}, State{Stack: stack.Stack{Now: 3, Kept: b}}) {
				t.Errorf("%#v and %#v differ", a, b)
			}
		}
	}
}

// The chapter's examples.
func TestExample(t *testing.T) {
	s, told, ok := Do(State{}, api.Screen{}, seq(t, "[?2004h"))
	if !ok || len(told) > 0 || !equal(s, State{Modes: api.Modes{Paste: true}}) {
		t.Errorf("%+v, %+v, %v", s, told, ok)
	}
	s, told, ok = Do(State{}, api.Screen{Row: 3, Col: 4}, seq(t, "[6n"))
	if !ok || len(told) != 1 || !wire.Same(told[0], wire.Num(0, 'R', 3, 4)) || !equal(s, State{}) {
		t.Errorf("%+v, %+v, %v", s, told, ok)
	}
}

// R3: what is handed in stays as it is, slices too, with all the room behind them; what is told shares nothing with it, and the same is told twice.
func TestWhatIsHandedInStays(t *testing.T) {
	texts := []string{"[2h", "[?1;2004h", "[?1;2004l", "[?1;66s", "[?1;66r", "[>4;1m", "[>4n", "[c", "[>c", "[=c", "[5n", "[6n", "[?6n", "[2$p", "[?1$p", "[!p", "[>q", "[?u", "[>5u", "[<u", "[<0u", "[<3u", "[<9u", "[=5;2u", "[=5;9u", "=", ">", "c", "P$qm\x1b\\", "P+q544E\x1b\\", "[A", "[9c"}
	for _, s := range states() {
		for _, text := range texts {
			q := seq(t, text)
			for i, p := range q.Params {
				q.Params[i] = append(make([]int, 0, 4), p...)
			}
			room := append(append([]int{}, s.Stack.Kept...), 77, 78, 79)
			s.Stack.Kept = room[:len(room)-3]
			before, asked, was := copyOf(s), copyOfSeq(q), slices.Clone(room)
			for range 2 {
				then, told, known := want(copyOf(before), screens()[0], asked)
				got, replies := expect(t, s, screens()[0], q, then, told, known)
				kept := got.Stack.Kept
				for i := range kept[:cap(kept)] {
					kept[:cap(kept)][i] = -99
				}
				for _, reply := range replies {
					for _, p := range reply.Params {
						clear(p[:cap(p)])
					}
					clear(reply.Params[:cap(reply.Params)])
				}
				if !equal(s, before) || !wire.Same(q, asked) || !slices.Equal(room, was) {
					t.Fatalf("%q: %+v, %+v, %v", text, s, q, room)
				}
			}
		}
	}
}

// R3: what was told stays as it is, when what was handed in is changed.
func TestWhatIsToldStays(t *testing.T) {
	for _, text := range []string{"[2h", "[c", "[>5u", "[<u", "[<0u", "[=5;2u", "[=5;9u", "=", "[A", "P0$qm\x1b\\", "[?u"} {
		s := full()
		got, _, _ := Do(s, api.Screen{}, seq(t, text))
		kept := slices.Clone(got.Stack.Kept)
		clear(s.Stack.Kept)
		if !slices.Equal(got.Stack.Kept, kept) {
			t.Errorf("%q: %v became %v", text, kept, got.Stack.Kept)
		}
	}
}

// P1: every call ends, and none panics, at all numbers; and each is as the chapter says.
func TestNoCallPanics(t *testing.T) {
	var l []int
	for bit := range 64 {
		for add := -1; add <= 1; add++ {
			l = append(l, 1<<bit+add, -(1<<bit + add))
		}
	}
	for i, n := range l {
		other := l[len(l)-1-i]
		s := State{Modes: api.Modes{Mouse: n, Coding: other, Other: n}, Saved: save.Saved{byte(n), byte(other)}, Stack: stack.Stack{Now: n, Kept: []int{other, n}}}
		f := api.Screen{Row: n, Col: other, Top: n, Bottom: other, Left: n, Right: other, Shape: n, Style: api.Style{Fore: n, Back: other}}
		for _, text := range []string{"[h", "[?h", "[?l", "[?s", "[?r", "[>m", "[>n", "[c", "[n", "[?n", "[$p", "[?$p", "[>q", "[?u", "[>u", "[<u", "[=u", "c", "P$qm\x1b\\", "P$q q\x1b\\"} {
			q := seq(t, text)
			check(t, s, f, q)
			if q.Kind == api.CSI {
				q.Params = [][]int{{n}, {other}}
				check(t, s, f, q)
			}
			q.Kind = n
			check(t, s, f, q)
		}
	}
	huge := make([][]int, 5000)
	for i := range huge {
		huge[i] = []int{i, -i}
	}
	for _, text := range []string{"[h", "[?h", "[?l", "[?s", "[?r", "[>u", "[<u"} {
		q := seq(t, text)
		q.Params = huge
		check(t, full(), api.Screen{}, q)
	}
}
