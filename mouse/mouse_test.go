package mouse

import (
	"fmt"
	"math"
	"regexp"
	"slices"
	"strconv"
	"testing"

	"clavier/api"
	"clavier/track"
	"clavier/wire"
)

// The calls are as the chapter has them.
var (
	_ func(int, api.Mouse) int         = Code
	_ func(int, int, api.Mouse) []byte = Encode
	_ func([]byte) (api.Mouse, bool)   = Decode
)

// The buttons' numbers, written out, and the buttons that may be, by the events' types.
var (
	buttonNumbers = []int{3, 0, 1, 2, 64, 65, 66, 67, 128, 129, 130, 131}
	mayButtons    = map[int][]int{
		api.Press:   {1, 2, 3, 4, 5, 6, 7, 8, 9, 10, 11},
		api.Release: {1, 2, 3, 8, 9, 10, 11},
		api.Motion:  {0, 1, 2, 3, 8, 9, 10, 11},
	}
)

// may tells whether an event may be, by the chapter of the layer below.
func may(e api.Mouse) bool {
	return e.X > 0 && e.X < 65536 && e.Y > 0 && e.Y < 65536 && e.Mods > -1 && e.Mods < 256 && slices.Contains(mayButtons[e.Type], e.Button)
}

// wantMarks are an event's marks, by the chapter's words.
func wantMarks(mode int, e api.Mouse) int {
	n := 0
	if e.Type == api.Motion {
		n += 32
	}
	if mode == 9 {
		return n
	}
	// Shift, Alt and Ctrl are the last three bits of Mods.
	return n + []int{0, 4, 8, 12, 16, 20, 24, 28}[e.Mods%8]
}

// wantCode is an event's number, by the chapter's words.
func wantCode(mode int, e api.Mouse) int {
	if !may(e) {
		return 0
	}
	return buttonNumbers[e.Button] + wantMarks(mode, e)
}

// wantBytes is what an event sends, by the chapter's words.
func wantBytes(mode, coding int, e api.Mouse) string {
	if !may(e) {
		return ""
	}
	if coding == 1006 {
		final := "M"
		if e.Type == api.Release {
			final = "m"
		}
		return fmt.Sprintf("\x1b[<%d;%d;%d%s", wantCode(mode, e), e.X, e.Y, final)
	}
	n := 32 + wantCode(mode, e)
	if e.Type == api.Release {
		n = 35 + wantMarks(mode, e)
	}
	switch coding {
	case 1015:
		return fmt.Sprintf("\x1b[%d;%d;%dM", n, e.X, e.Y)
	case 1005:
		if e.X > 2015 || e.Y > 2015 {
			return ""
		}
		return "\x1b[M" + string(rune(n)) + string(rune(e.X+32)) + string(rune(e.Y+32))
	}
	if e.X > 223 || e.Y > 223 {
		return ""
	}
	return "\x1b[M" + string([]byte{byte(n), byte(e.X + 32), byte(e.Y + 32)})
}

// checkCode ends the test at the first answer that isn't as it ought to be.
func checkCode(t *testing.T, mode int, e api.Mouse, want int) {
	t.Helper()
	if got := Code(mode, e); got != want {
		t.Fatalf("Code(%d, %+v) = %d, not %d", mode, e, got, want)
	}
}

// checkBytes ends the test at the first answer that isn't as it ought to be.
func checkBytes(t *testing.T, mode, coding int, e api.Mouse, want string) {
	t.Helper()
	if got := string(Encode(mode, coding, e)); got != want {
		t.Fatalf("Encode(%d, %d, %+v) = %q, not %q", mode, coding, e, got, want)
	}
}

// check holds an event by a mode and a coding against the chapter.
func check(t *testing.T, mode, coding int, e api.Mouse) {
	t.Helper()
	checkBytes(t, mode, coding, e, wantBytes(mode, coding, e))
}

// checkEvent ends the test, if bytes aren't told back as an event.
func checkEvent(t *testing.T, b string, want api.Mouse) {
	t.Helper()
	if got, ok := Decode([]byte(b)); !ok || got != want {
		t.Fatalf("Decode(%q) = %+v, %v, not %+v", b, got, ok, want)
	}
}

// checkNone ends the test, if bytes are told back as an event.
func checkNone(t *testing.T, b string) {
	t.Helper()
	if got, ok := Decode([]byte(b)); ok || got != (api.Mouse{}) {
		t.Fatalf("Decode(%q) = %+v, %v", b, got, ok)
	}
}

// sent is how an event stands with 1006.
var sent = regexp.MustCompile(`^\x1b\[<(0|[1-9][0-9]*);([1-9][0-9]*);([1-9][0-9]*)([Mm])$`)

// wantEvent is what is told back of bytes, by the chapter's words: all events are gone through that may be.
func wantEvent(b string) (api.Mouse, bool) {
	l := sent.FindStringSubmatch(b)
	if l == nil {
		return api.Mouse{}, false
	}
	x, errX := strconv.Atoi(l[2])
	y, errY := strconv.Atoi(l[3])
	if errX != nil || errY != nil {
		return api.Mouse{}, false
	}
	for _, e := range events(x, y) {
		for e.Mods = range 8 {
			if may(e) && l[1] == strconv.Itoa(wantCode(1003, e)) && (l[4] == "m") == (e.Type == api.Release) {
				return e, true
			}
		}
	}
	return api.Mouse{}, false
}

// checkDecode holds what is told back of bytes against the chapter.
func checkDecode(t *testing.T, b string) {
	t.Helper()
	if e, ok := wantEvent(b); ok {
		checkEvent(t, b, e)
		return
	}
	checkNone(t, b)
}

// events are all buttons and types that may be, in one cell.
func events(x, y int) []api.Mouse {
	var l []api.Mouse
	for _, kind := range []int{api.Press, api.Release, api.Motion} {
		for _, button := range mayButtons[kind] {
			l = append(l, api.Mouse{Button: button, Type: kind, X: x, Y: y})
		}
	}
	return l
}

// wraps are numbers that would be n, if only their last bits were told.
func wraps(n int) []int {
	l := []int{n + math.MinInt}
	for _, bits := range []int{8, 16, 31, 32, 33, 62} {
		l = append(l, n+1<<bits, n-1<<bits)
	}
	return l
}

// ends are very small and very great numbers.
func ends() []int {
	return []int{
		math.MinInt, math.MinInt + 1, math.MinInt32, -65536, -65535, -256, -255, -2, -1,
		65537, 131071, math.MaxInt32, math.MaxInt32 + 1, math.MaxUint32, math.MaxUint32 + 1, math.MaxInt - 1, math.MaxInt,
	}
}

// modes are those that tell anything, those beside these, and numbers that would wrap round onto one.
func modes() []int {
	l := append(ends(), 0, 1, 1001, 1004, 1005, 1006, 1015, -9, -1000, -1003)
	for _, mode := range []int{9, 1000, 1002, 1003} {
		l = append(l, mode-1, mode, mode+1)
		l = append(l, wraps(mode)...)
	}
	return l
}

// fewModes are the modes, and some numbers beside these.
func fewModes() []int {
	return []int{9, 1000, 1002, 1003, 0, 8, 10, 9 + 1<<32, -9}
}

// codingNumbers are the codings, those beside these, and numbers that would wrap round onto one.
func codingNumbers() []int {
	l := append(ends(), 1, 9, 1000, 1003, 1016, 2004)
	for _, coding := range []int{0, 1005, 1006, 1015} {
		l = append(l, coding-1, coding, coding+1, -coding)
		l = append(l, wraps(coding)...)
	}
	return l
}

// fewCodings are the codings, and some numbers beside these.
func fewCodings() []int {
	return []int{0, 1005, 1006, 1015, 1, -1, 1004, 1007, 1014, 1016}
}

// cells are numbers across or down: where bytes, code points of one byte and of two, and cells end, and those beside these.
func cells() []int {
	return []int{1, 2, 94, 95, 96, 97, 127, 128, 129, 159, 160, 222, 223, 224, 225, 255, 256, 300, 2014, 2015, 2016, 2017, 2047, 2048, 9999, 10000, 65534, 65535}
}

// notCells are numbers that are none of a cell.
func notCells() []int {
	return append(ends(), 0, 65536, 65537, 65536+223, 1+1<<32, 224+1<<32, 2016-1<<62, 1-1<<32, 5+math.MinInt)
}

// notEvents are events that may not be, for each reason.
func notEvents() []api.Mouse {
	var l []api.Mouse
	for _, n := range notCells() {
		for _, e := range events(n, 6) {
			l = append(l, e)
		}
		for _, e := range events(5, n) {
			l = append(l, e)
		}
	}
	for _, e := range events(5, 6) {
		for _, e.Mods = range append(ends(), 256, 257, 511, 512) {
			l = append(l, e)
		}
		e.Mods = 0
		for _, e.Type = range append(ends(), 0, 2, 5, 6, 7, 257, 259, 260, 1+1<<32, 3-1<<32) {
			l = append(l, e)
		}
	}
	for _, kind := range []int{api.Press, api.Release, api.Motion} {
		for _, button := range append(ends(), 12, 13, 14, 15, 16, 64, 128, 255, 256, 257, 260, 1+1<<32, 8-1<<32) {
			l = append(l, api.Mouse{Button: button, Type: kind, X: 5, Y: 6})
		}
		for button := range 12 {
			if !slices.Contains(mayButtons[kind], button) {
				l = append(l, api.Mouse{Button: button, Type: kind, X: 5, Y: 6})
			}
		}
	}
	return append(l, api.Mouse{})
}

// P16.1: events, and their numbers, written out.
func TestCodeRows(t *testing.T) {
	for _, r := range []struct{ mode, button, kind, mods, want int }{
		{1000, 1, api.Press, 0, 0},
		{1000, 2, api.Press, 0, 1},
		{1000, 3, api.Press, 0, 2},
		{1003, 0, api.Motion, 0, 35},
		{1000, 4, api.Press, 0, 64},
		{1000, 5, api.Press, 0, 65},
		{1000, 7, api.Press, 0, 67},
		{1000, 8, api.Press, 0, 128},
		{1000, 11, api.Press, 0, 131},
		{1000, 1, api.Release, 0, 0},
		{1000, 3, api.Release, 0, 2},
		{1000, 11, api.Release, 0, 131},
		{1002, 1, api.Motion, 0, 32},
		{1002, 3, api.Motion, 0, 34},
		{1002, 8, api.Motion, 0, 160},
		{1003, 11, api.Motion, 0, 163},
		{1000, 1, api.Press, api.Shift, 4},
		{1000, 1, api.Press, api.Alt, 8},
		{1000, 1, api.Press, api.Ctrl, 16},
		{1000, 1, api.Press, api.Shift | api.Alt | api.Ctrl, 28},
		{1000, 1, api.Press, api.Super, 0},
		{1000, 1, api.Press, api.Hyper, 0},
		{1000, 1, api.Press, api.Meta, 0},
		{1000, 1, api.Press, api.Caps | api.Num, 0},
		{1000, 1, api.Press, 255, 28},
		{1003, 11, api.Motion, 255, 191},
		{1003, 0, api.Motion, 7, 63},
		{9, 1, api.Press, 0, 0},
		{9, 3, api.Press, 255, 2},
		{9, 1, api.Motion, api.Shift, 32},
		{9, 8, api.Release, api.Ctrl, 128},
		{0, 2, api.Press, api.Shift, 5},
		{1001, 2, api.Press, api.Ctrl, 17},
		{1000, 0, api.Press, 0, 0},
		{1000, 0, api.Release, 0, 0},
		{1000, 4, api.Release, 7, 0},
		{1003, 7, api.Motion, 7, 0},
		{1003, 12, api.Press, 0, 0},
		{1003, -1, api.Press, 0, 0},
		{1003, 2, api.Repeat, 4, 0},
		{1003, 2, api.Press, 256, 0},
		{1003, 2, api.Press, -1, 0},
	} {
		checkCode(t, r.mode, api.Mouse{Button: r.button, Type: r.kind, X: 5, Y: 6, Mods: r.mods}, r.want)
	}
	checkCode(t, 1003, api.Mouse{Button: 2, Type: api.Press, X: 5}, 0)
	checkCode(t, 1003, api.Mouse{Button: 2, Type: api.Press, Y: 5}, 0)
	checkCode(t, 1003, api.Mouse{Button: 2, Type: api.Press, X: 65535, Y: 65535}, 1)
	checkCode(t, 1003, api.Mouse{Button: 2, Type: api.Press, X: 65536, Y: 65535}, 0)
	checkCode(t, 1003, api.Mouse{Button: 2, Type: api.Press, X: 65535, Y: 65536}, 0)
}

// P16.1: each button, from below 0 to above 11, with each type and all modifiers, by each mode and by other numbers.
func TestCodeOfEachEvent(t *testing.T) {
	for button := -3; button <= 15; button++ {
		for kind := -1; kind <= 6; kind++ {
			for _, mods := range append(ends(), 256, 257, 300) {
				e := api.Mouse{Button: button, Type: kind, X: 5, Y: 6, Mods: mods}
				checkCode(t, 1003, e, 0)
				checkCode(t, 9, e, 0)
			}
			for mods := range 256 {
				e := api.Mouse{Button: button, Type: kind, X: 5, Y: 6, Mods: mods}
				for _, mode := range fewModes() {
					checkCode(t, mode, e, wantCode(mode, e))
				}
			}
			for _, mode := range modes() {
				e := api.Mouse{Button: button, Type: kind, X: 65535, Y: 300, Mods: 255}
				checkCode(t, mode, e, wantCode(mode, e))
			}
		}
	}
}

// P16.1: the cell changes nothing of an event's number.
func TestCodeOfEachCell(t *testing.T) {
	for _, e := range events(1, 1) {
		e.Mods = 6
		for _, x := range cells() {
			for _, y := range cells() {
				e.X, e.Y = x, y
				checkCode(t, 1003, e, wantCode(1003, e))
			}
		}
	}
}

// P16.1: events that may not be have the number 0, and send nothing, by any mode and any coding.
func TestEventsThatMayNotBe(t *testing.T) {
	for _, e := range notEvents() {
		if track.May(e) || may(e) {
			t.Fatalf("%+v may be", e)
		}
		for _, mode := range fewModes() {
			checkCode(t, mode, e, 0)
			for _, coding := range fewCodings() {
				checkBytes(t, mode, coding, e, "")
			}
		}
	}
}

// P16.1: what events send, written out.
func TestEncodeRows(t *testing.T) {
	for _, r := range []struct {
		mode, coding int
		e            api.Mouse
		want         string
	}{
		{1000, 1006, api.Mouse{Button: 1, Type: api.Press, X: 1, Y: 1}, "\x1b[<0;1;1M"},
		{1000, 1006, api.Mouse{Button: 1, Type: api.Release, X: 1, Y: 1}, "\x1b[<0;1;1m"},
		{1000, 1006, api.Mouse{Button: 3, Type: api.Release, X: 7, Y: 300, Mods: api.Ctrl}, "\x1b[<18;7;300m"},
		{1000, 1006, api.Mouse{Button: 11, Type: api.Release, X: 65535, Y: 65535, Mods: 255}, "\x1b[<159;65535;65535m"},
		{1000, 1006, api.Mouse{Button: 4, Type: api.Press, X: 80, Y: 24}, "\x1b[<64;80;24M"},
		{1003, 1006, api.Mouse{Button: 0, Type: api.Motion, X: 2016, Y: 224}, "\x1b[<35;2016;224M"},
		{1002, 1006, api.Mouse{Button: 2, Type: api.Motion, X: 5, Y: 6, Mods: api.Alt}, "\x1b[<41;5;6M"},
		{9, 1006, api.Mouse{Button: 2, Type: api.Press, X: 5, Y: 6, Mods: 255}, "\x1b[<1;5;6M"},
		{1000, 1015, api.Mouse{Button: 1, Type: api.Press, X: 1, Y: 1}, "\x1b[32;1;1M"},
		{1000, 1015, api.Mouse{Button: 1, Type: api.Release, X: 1, Y: 1}, "\x1b[35;1;1M"},
		{1000, 1015, api.Mouse{Button: 11, Type: api.Release, X: 65535, Y: 1, Mods: api.Shift}, "\x1b[39;65535;1M"},
		{1000, 1015, api.Mouse{Button: 11, Type: api.Press, X: 1, Y: 65535}, "\x1b[163;1;65535M"},
		{1003, 1015, api.Mouse{Button: 0, Type: api.Motion, X: 1, Y: 2}, "\x1b[67;1;2M"},
		{9, 1015, api.Mouse{Button: 3, Type: api.Press, X: 1, Y: 2, Mods: 7}, "\x1b[34;1;2M"},
		{1000, 1005, api.Mouse{Button: 1, Type: api.Press, X: 1, Y: 1}, "\x1b[M !!"},
		{1000, 1005, api.Mouse{Button: 1, Type: api.Release, X: 1, Y: 1}, "\x1b[M#!!"},
		{1000, 1005, api.Mouse{Button: 8, Type: api.Press, X: 95, Y: 96}, "\x1b[M\xc2\xa0\x7f\xc2\x80"},
		{1000, 1005, api.Mouse{Button: 8, Type: api.Release, X: 223, Y: 224}, "\x1b[M#\xc3\xbf\xc4\x80"},
		{1000, 1005, api.Mouse{Button: 4, Type: api.Press, X: 2015, Y: 1}, "\x1b[M`\xdf\xbf!"},
		{1000, 1005, api.Mouse{Button: 4, Type: api.Press, X: 1, Y: 2015}, "\x1b[M`!\xdf\xbf"},
		{1000, 1005, api.Mouse{Button: 4, Type: api.Press, X: 2016, Y: 1}, ""},
		{1000, 1005, api.Mouse{Button: 4, Type: api.Press, X: 1, Y: 2016}, ""},
		{1000, 0, api.Mouse{Button: 1, Type: api.Press, X: 1, Y: 1}, "\x1b[M !!"},
		{1000, 0, api.Mouse{Button: 1, Type: api.Release, X: 1, Y: 1}, "\x1b[M#!!"},
		{1000, 0, api.Mouse{Button: 9, Type: api.Release, X: 1, Y: 1, Mods: 4}, "\x1b[M3!!"},
		{1000, 0, api.Mouse{Button: 8, Type: api.Press, X: 95, Y: 96}, "\x1b[M\xa0\x7f\x80"},
		{1000, 0, api.Mouse{Button: 11, Type: api.Press, X: 223, Y: 1, Mods: 7}, "\x1b[M\xbf\xff!"},
		{1003, 0, api.Mouse{Button: 11, Type: api.Motion, X: 1, Y: 223, Mods: 7}, "\x1b[M\xdf!\xff"},
		{1000, 0, api.Mouse{Button: 1, Type: api.Press, X: 224, Y: 1}, ""},
		{1000, 0, api.Mouse{Button: 1, Type: api.Press, X: 1, Y: 224}, ""},
		{1000, 1, api.Mouse{Button: 1, Type: api.Press, X: 1, Y: 1}, "\x1b[M !!"},
		{1000, -1006, api.Mouse{Button: 1, Type: api.Press, X: 223, Y: 223}, "\x1b[M \xff\xff"},
		{1000, 1007, api.Mouse{Button: 1, Type: api.Press, X: 224, Y: 223}, ""},
		{0, 1006, api.Mouse{Button: 1, Type: api.Press, X: 1, Y: 1, Mods: 1}, "\x1b[<4;1;1M"},
		{9, 1006, api.Mouse{Button: 1, Type: api.Motion, X: 1, Y: 1, Mods: 1}, "\x1b[<32;1;1M"},
		{1003, 1006, api.Mouse{Button: 0, Type: api.Press, X: 1, Y: 1}, ""},
		{1003, 0, api.Mouse{Button: 4, Type: api.Release, X: 1, Y: 1}, ""},
		{1003, 1015, api.Mouse{Button: 1, Type: api.Press, X: 0, Y: 1}, ""},
		{1003, 1005, api.Mouse{Button: 1, Type: api.Press, X: 1, Y: 1, Mods: 256}, ""},
	} {
		checkBytes(t, r.mode, r.coding, r.e, r.want)
		check(t, r.mode, r.coding, r.e)
	}
}

// P16.1: each event that may be, at all pairs of the cells that codings hold apart, and beyond these, by each coding.
func TestEncodeEachEvent(t *testing.T) {
	numbers := append(cells(), 0, -1, 65536, 65537)
	for _, x := range numbers {
		for _, y := range numbers {
			for i, e := range events(x, y) {
				e.Mods = (x*7 + y*31 + i*5) % 256
				for _, coding := range fewCodings() {
					check(t, 1003, coding, e)
				}
				check(t, 9, fewCodings()[i%4], e)
			}
		}
	}
}

// P16.1: all cells across and down, with 1005 and one byte, up to behind the last one that can be said.
func TestEncodeEachCell(t *testing.T) {
	e := api.Mouse{Button: 3, Type: api.Press}
	for n := -300; n <= 4300; n++ {
		for _, coding := range []int{0, 1005, 1006, 1015} {
			e.X, e.Y = n, 1
			check(t, 1000, coding, e)
			e.X, e.Y = 2, n
			check(t, 1000, coding, e)
			e.X, e.Y = n, n
			check(t, 1000, coding, e)
		}
	}
}

// P16.1: all modifiers, with each event that may be, by each mode and each coding.
func TestEncodeEachModifier(t *testing.T) {
	for _, e := range events(95, 96) {
		for e.Mods = range 256 {
			for _, mode := range []int{9, 1000, 1003, 0} {
				for _, coding := range []int{0, 1005, 1006, 1015} {
					check(t, mode, coding, e)
				}
			}
		}
	}
}

// P16.1: numbers beside the codings send as the single bytes do, however near to one they are.
func TestOtherCodings(t *testing.T) {
	for _, coding := range codingNumbers() {
		for _, x := range []int{1, 96, 223, 224, 2016} {
			for _, e := range events(x, 95) {
				e.Mods = 5
				for _, mode := range []int{9, 1003, 1006} {
					check(t, mode, coding, e)
				}
				if slices.Contains([]int{1005, 1006, 1015}, coding) {
					continue
				}
				checkBytes(t, 1003, coding, e, string(Encode(1003, 0, e)))
			}
		}
	}
}

// P16.1: all numbers as modes send as 1000 does, but 9.
func TestOtherModes(t *testing.T) {
	for _, mode := range modes() {
		for _, e := range events(5, 6) {
			e.Mods = 255
			for _, coding := range []int{0, 1005, 1006, 1015} {
				check(t, mode, coding, e)
				if mode != 9 {
					checkBytes(t, mode, coding, e, string(Encode(1000, coding, e)))
				}
			}
		}
	}
}

// P16.2: bytes, and the events that are told back, written out.
func TestDecodeRows(t *testing.T) {
	for _, r := range []struct {
		b    string
		want api.Mouse
	}{
		{"\x1b[<0;1;1M", api.Mouse{Button: 1, Type: api.Press, X: 1, Y: 1}},
		{"\x1b[<0;1;1m", api.Mouse{Button: 1, Type: api.Release, X: 1, Y: 1}},
		{"\x1b[<2;65535;300M", api.Mouse{Button: 3, Type: api.Press, X: 65535, Y: 300}},
		{"\x1b[<35;300;65535M", api.Mouse{Button: 0, Type: api.Motion, X: 300, Y: 65535}},
		{"\x1b[<32;5;6M", api.Mouse{Button: 1, Type: api.Motion, X: 5, Y: 6}},
		{"\x1b[<67;5;6M", api.Mouse{Button: 7, Type: api.Press, X: 5, Y: 6}},
		{"\x1b[<4;5;6M", api.Mouse{Button: 1, Type: api.Press, X: 5, Y: 6, Mods: api.Shift}},
		{"\x1b[<8;5;6M", api.Mouse{Button: 1, Type: api.Press, X: 5, Y: 6, Mods: api.Alt}},
		{"\x1b[<16;5;6M", api.Mouse{Button: 1, Type: api.Press, X: 5, Y: 6, Mods: api.Ctrl}},
		{"\x1b[<159;5;6m", api.Mouse{Button: 11, Type: api.Release, X: 5, Y: 6, Mods: 7}},
		{"\x1b[<191;5;6M", api.Mouse{Button: 11, Type: api.Motion, X: 5, Y: 6, Mods: 7}},
		{"\x1b[<63;5;6M", api.Mouse{Button: 0, Type: api.Motion, X: 5, Y: 6, Mods: 7}},
	} {
		checkEvent(t, r.b, r.want)
	}
	for _, b := range []string{
		"", "\x1b", "\x1b[", "\x1b[<", "\x1b[<0", "\x1b[<0;1;1", "<0;1;1M", "a\x1b[<0;1;1M", "\x1b[<0;1;1Ma", "\x1b[<0;1;1M\x1b[<0;1;1M",
		"\x1b[0;1;1M", "\x1b[?0;1;1M", "\x1b[>0;1;1M", "\x1b[=0;1;1M", "\x1bO<0;1;1M", "\x1bP<0;1;1M\x1b\\", "\x1b]<0;1;1M\x1b\\", "\x1b<0;1;1M",
		"\x1b[<M", "\x1b[<m", "\x1b[<0M", "\x1b[<0;1M", "\x1b[<0;1;1;1M", "\x1b[<0;1;1;M", "\x1b[<0;1;M", "\x1b[<0;;1M", "\x1b[<;1;1M", "\x1b[<;;M",
		"\x1b[<0:1;1;1M", "\x1b[<0;1:1;1M", "\x1b[<0;1;1:1M", "\x1b[<0:;1;1M", "\x1b[<0;1;1:M", "\x1b[<:0;1;1M",
		"\x1b[<00;1;1M", "\x1b[<0;01;1M", "\x1b[<0;1;01M", "\x1b[<-0;1;1M", "\x1b[<+0;1;1M", "\x1b[<0;-1;1M", "\x1b[<0;+1;1M", "\x1b[< 0;1;1M", "\x1b[<0;1;1 M",
		"\x1b[<0;0;1M", "\x1b[<0;1;0M", "\x1b[<0;65536;1M", "\x1b[<0;1;65536M", "\x1b[<0;1114111;1M", "\x1b[<0;1114112;1M",
		"\x1b[<0;1;4294967297M", "\x1b[<0;1;18446744073709551617M", "\x1b[<4294967296;1;1M", "\x1b[<18446744073709551616;1;1M",
		"\x1b[<3;1;1M", "\x1b[<3;1;1m", "\x1b[<35;1;1m", "\x1b[<32;1;1m", "\x1b[<64;1;1m", "\x1b[<67;1;1m", "\x1b[<96;1;1M", "\x1b[<99;1;1M",
		"\x1b[<192;1;1M", "\x1b[<256;1;1M", "\x1b[<256;1;1m", "\x1b[<1000;1;1M", "\x1b[<65536;1;1M", "\x1b[<1114111;1;1M",
		"\x1b[<0;1;1L", "\x1b[<0;1;1N", "\x1b[<0;1;1l", "\x1b[<0;1;1n", "\x1b[<0;1;1u", "\x1b[<0;1;1~", "\x1b[<0;1;1@", "\x1b[<0;1;1\x1b\\",
		"\x1b[<0;1;1$M", "\x1b[<0;1;1$$m", "\x1b[M !!", "\x1b[32;1;1M", "\x1b[I", "\x9b<0;1;1M", "\xc2\x9b<0;1;1M",
	} {
		checkNone(t, b)
		checkDecode(t, b)
	}
}

// P16.2: all numbers from below 0 to far above 255, with both letters and with others, and those that would wrap round onto one.
func TestDecodeEachNumber(t *testing.T) {
	numbers := append(ends(), 65535, 65536, 1114110, 1114111, 1114112, 1<<32+35, 1<<32, 1<<16+2, math.MaxInt-255)
	for n := -3; n <= 1100; n++ {
		numbers = append(numbers, n)
	}
	for _, n := range numbers {
		for _, final := range "MmLNln@~u" {
			checkDecode(t, fmt.Sprintf("\x1b[<%d;5;6%c", n, final))
			checkDecode(t, fmt.Sprintf("\x1b[<%d;65535;2016%c", n, final))
		}
	}
}

// P16.2: numbers across and down, from below 0 to beyond the last cell.
func TestDecodeEachCell(t *testing.T) {
	numbers := append(cells(), notCells()...)
	for n := -3; n <= 400; n++ {
		numbers = append(numbers, n)
	}
	for i, n := range numbers {
		for _, b := range []string{
			fmt.Sprintf("\x1b[<0;%d;1M", n), fmt.Sprintf("\x1b[<1;65535;%dm", n), fmt.Sprintf("\x1b[<35;%d;%dM", n, n),
			fmt.Sprintf("\x1b[<67;%d;%dM", n, numbers[len(numbers)-1-i]), fmt.Sprintf("\x1b[<0;0%d;1M", n), fmt.Sprintf("\x1b[<0;1;00%dM", n),
		} {
			checkDecode(t, b)
		}
	}
}

// sendings are what Encode sends with 1003 and 1006 of all events that may be, with the modifiers that are told, in a few cells.
func sendings() map[string]api.Mouse {
	l := map[string]api.Mouse{}
	for _, cell := range [][2]int{{1, 1}, {95, 224}, {65535, 2016}, {10, 65535}} {
		for _, e := range events(cell[0], cell[1]) {
			for e.Mods = range 8 {
				l[string(Encode(1003, 1006, e))] = e
			}
		}
	}
	return l
}

// P16.2, P16.3: all that is sent is told back; no two send the same.
func TestDecodeWhatIsSent(t *testing.T) {
	l := sendings()
	if len(l) != 4*26*8 {
		t.Fatal("there are", len(l), "sendings")
	}
	for b, e := range l {
		checkEvent(t, b, e)
	}
}

// P16.2: what is sent, with one byte more at each place, one less, and one changed.
func TestDecodeWhatIsNearlySent(t *testing.T) {
	bytes := "\x00\x18\x1b !$0123456789:;<=>?@AMNOP[\\]^lmnu~\x7f\x80\x9b\xff"
	for b, e := range sendings() {
		if e.Mods != e.Button%8 {
			continue
		}
		for i := range len(b) + 1 {
			for j := range len(bytes) {
				checkDecode(t, b[:i]+bytes[j:j+1]+b[i:])
			}
			if i == len(b) {
				continue
			}
			checkDecode(t, b[:i]+b[i+1:])
			checkDecode(t, b[:i])
			checkDecode(t, b[i:]+b[:i])
			for j := range len(bytes) {
				checkDecode(t, b[:i]+bytes[j:j+1]+b[i+1:])
			}
		}
	}
}

// P16.2: all short bytes, and bytes of a few kinds of a fixed seed.
func TestDecodeOtherBytes(t *testing.T) {
	checkNone(t, "")
	for i := range 256 {
		checkNone(t, string([]byte{byte(i)}))
		for j := range 256 {
			checkNone(t, string([]byte{byte(i), byte(j)}))
			checkNone(t, string([]byte{27, '[', byte(i), byte(j)}))
		}
	}
	seed := uint32(16)
	next := func(n int) int {
		seed = seed*1664525 + 1013904223
		return int(seed>>8) % n
	}
	found := 0
	fields := []string{"0", "1", "2", "32", "35", "64", "65535", "65536", "191", "", "01", "1:1"}
	finals := []string{"M", "m", "M", "m", ";1M", "MM", "L"}
	between := []string{";", ";", ";", ";", ";", ":", ""}
	pick := func(l []string) string { return l[next(len(l))] }
	for range 50000 {
		b := "\x1b[<" + pick(fields) + pick(between) + pick(fields) + pick(between) + pick(fields) + pick(finals)
		checkDecode(t, b)
		if _, ok := wantEvent(b); ok {
			found++
		}
	}
	if found < 1000 {
		t.Error("of these only", found, "are events")
	}
}

// P16.3: with 1006 all events that may be are told back, but for other modifiers.
func TestThereAndBack(t *testing.T) {
	for _, x := range cells() {
		for _, y := range []int{1, 223, 2016, 65535} {
			for i, e := range events(x, y) {
				for e.Mods = i % 19; e.Mods < 256; e.Mods += 19 {
					want := e
					want.Mods &= api.Shift | api.Alt | api.Ctrl
					checkEvent(t, string(Encode(1003, 1006, e)), want)
					checkEvent(t, string(Encode(1000, 1006, e)), want)
					want.Mods = 0
					checkEvent(t, string(Encode(9, 1006, e)), want)
				}
			}
		}
	}
}

// P16.3: what is told back sends the same again.
func TestBackAndThere(t *testing.T) {
	for n := range 300 {
		for _, final := range "Mm" {
			b := fmt.Sprintf("\x1b[<%d;17;2016%c", n, final)
			if e, ok := Decode([]byte(b)); ok {
				checkBytes(t, 1003, 1006, e, b)
			}
		}
	}
}

// P16.3: with the other codings a release sends the same, whatever its button was, and nothing of a release is told back.
func TestReleasesTellNoButton(t *testing.T) {
	for _, coding := range []int{0, 1, 1005, 1015} {
		for mods := range 256 {
			first := api.Mouse{Button: 1, Type: api.Release, X: 5, Y: 6, Mods: mods}
			for _, button := range []int{1, 2, 3, 8, 9, 10, 11} {
				e := first
				e.Button = button
				for _, mode := range []int{9, 1000, 1003} {
					b := string(Encode(mode, coding, e))
					checkBytes(t, mode, coding, first, b)
					checkNone(t, b)
				}
				for _, other := range []int{1, 2, 3, 8, 9, 10, 11} {
					o := first
					o.Button = other
					if (button == other) != (string(Encode(1003, 1006, e)) == string(Encode(1003, 1006, o))) {
						t.Fatalf("with 1006 %+v and %+v send %q and %q", e, o, Encode(1003, 1006, e), Encode(1003, 1006, o))
					}
				}
			}
		}
	}
}

// P16.1: with the mode 9 modifiers change nothing; with others those three that have marks do.
func TestModifiers(t *testing.T) {
	for _, coding := range []int{0, 1005, 1006, 1015} {
		for _, e := range events(5, 6) {
			bare := e
			told := map[string]int{}
			for e.Mods = range 256 {
				checkBytes(t, 9, coding, e, string(Encode(9, coding, bare)))
				checkCode(t, 9, e, Code(9, bare))
				told[string(Encode(1002, coding, e))]++
			}
			if len(told) != 8 {
				t.Fatalf("with %d %+v sends %d things, by modifiers", coding, bare, len(told))
			}
		}
	}
}

// The chapter's example: the left button, pressed at 1, 1.
func TestExample(t *testing.T) {
	e := api.Mouse{Button: 1, Type: api.Press, X: 1, Y: 1}
	checkBytes(t, 1000, 1006, e, "\x1b[<0;1;1M")
	checkBytes(t, 1000, 0, e, "\x1b[M\x20\x21\x21")
	checkEvent(t, "\x1b[<0;1;1M", e)
}

// What is sent by 1006 and 1015 is one sequence, with its parameters and nothing behind it.
func TestSequences(t *testing.T) {
	for _, e := range events(95, 2016) {
		e.Mods = 3
		b := Encode(1003, 1006, e)
		if s, n, err := wire.Take(b); err != api.OK || n != len(b) || s.Private != '<' || len(s.Params) != 3 {
			t.Errorf("of %q is taken %+v, %d, %v", b, s, n, err)
		}
		b = Encode(1003, 1015, e)
		if s, n, err := wire.Take(b); err != api.OK || n != len(b) || s.Private != 0 || len(s.Params) != 3 || s.Final != 'M' {
			t.Errorf("of %q is taken %+v, %d, %v", b, s, n, err)
		}
	}
}

// R3: what is handed in stays as it is, what is told is the caller's own, and the same is told twice.
func TestWhatIsHandedInStays(t *testing.T) {
	l := append(events(5, 6), notEvents()[:40]...)
	for _, mode := range fewModes() {
		for _, coding := range fewCodings() {
			for _, e := range l {
				was := e
				code := Code(mode, e)
				one := Encode(mode, coding, e)
				want := string(one)
				for i := range one {
					one[i] = '?'
				}
				for i := range one[:cap(one)] {
					one[:cap(one)][i] = '?'
				}
				if e != was || code != Code(mode, e) {
					t.Fatalf("%+v became %+v", was, e)
				}
				checkBytes(t, mode, coding, e, want)
			}
		}
	}
	for _, b := range []string{"\x1b[<0;1;1M", "\x1b[<35;65535;1M", "\x1b[<18;5;6m", "\x1b[<3;1;1M", "", "\x1b[<0;1;1Mx", "no sequence"} {
		room := []byte(b + "beyond")
		in := room[:len(b)]
		one, first := Decode(in)
		two, second := Decode(in)
		if string(room) != b+"beyond" {
			t.Fatalf("%q became %q", b, room)
		}
		if one != two || first != second {
			t.Fatalf("Decode(%q) = %+v, %v, and then %+v, %v", b, one, first, two, second)
		}
	}
}

// R2: no bytes are the same as nil.
func TestNoBytes(t *testing.T) {
	for _, b := range [][]byte{nil, {}} {
		if e, ok := Decode(b); ok || e != (api.Mouse{}) {
			t.Errorf("Decode of no bytes is %+v, %v", e, ok)
		}
	}
}

// R4: nothing is kept from call to call: in any order of calls each is told what it is told alone.
func TestNothingIsKept(t *testing.T) {
	l := append(events(5, 6), events(223, 2015)...)
	l = append(l, events(2016, 1)...)
	l = append(l, api.Mouse{Button: 4, Type: api.Release, X: 5, Y: 6}, api.Mouse{})
	for i := range 50000 {
		e, mode, coding := l[i*7%len(l)], fewModes()[i%9], fewCodings()[i*3%10]
		e.Mods = i % 256
		check(t, mode, coding, e)
		checkCode(t, mode, e, wantCode(mode, e))
		checkDecode(t, wantBytes(mode, 1006-i%2, e))
	}
}

// P1: every call ends, and none panics, at all numbers; and each is as the chapter says.
func TestNoCallPanics(t *testing.T) {
	var l []int
	for bit := range 64 {
		for add := -2; add <= 2; add++ {
			l = append(l, 1<<bit+add, -(1<<bit + add))
		}
	}
	for i, n := range l {
		other := l[len(l)-1-i]
		for _, e := range []api.Mouse{
			{Button: n, Type: other, X: n, Y: other, Mods: n},
			{Button: n, Type: api.Press, X: 5, Y: 6},
			{Button: 1, Type: n, X: 5, Y: 6},
			{Button: 1, Type: api.Motion, X: n, Y: other},
			{Button: 8, Type: api.Release, X: 6, Y: n},
			{Button: 0, Type: api.Motion, X: 5, Y: 6, Mods: n},
		} {
			for _, mode := range []int{9, 1003, n, other} {
				checkCode(t, mode, e, wantCode(mode, e))
				for _, coding := range []int{0, 1005, 1006, 1015, n, other} {
					check(t, mode, coding, e)
				}
			}
		}
		checkDecode(t, fmt.Sprintf("\x1b[<%d;%d;%dM", n, other, n))
		checkDecode(t, fmt.Sprintf("\x1b[<%d;5;6m", n))
	}
}
