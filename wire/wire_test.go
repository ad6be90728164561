package wire

import (
	"bytes"
	"math"
	"math/rand"
	"reflect"
	"regexp"
	"slices"
	"strconv"
	"strings"
	"testing"

	"clavier/api"
)

// parts are n parameters of one part, pieces one parameter of n parts.
func parts(n, part int) [][]int {
	var l [][]int
	for range n {
		l = append(l, []int{part})
	}
	return l
}

func pieces(n, part int) [][]int { return [][]int{slices.Repeat([]int{part}, n)} }

// known are sequences that may be, with their bytes written out.
var known = []struct {
	s api.Seq
	b string
}{
	{api.Seq{Kind: api.CSI, Private: '?', Params: [][]int{{1}, {2}}, Final: 'c'}, "\x1b[?1;2c"},
	{api.Seq{Kind: api.CSI, Final: 'A'}, "\x1b[A"},
	{api.Seq{Kind: api.CSI, Params: [][]int{}, Final: 'A'}, "\x1b[A"},
	{api.Seq{Kind: api.CSI, Final: '@'}, "\x1b[@"},
	{api.Seq{Kind: api.CSI, Final: '~'}, "\x1b[~"},
	{api.Seq{Kind: api.CSI, Params: [][]int{{0}}, Final: 'm'}, "\x1b[0m"},
	{api.Seq{Kind: api.CSI, Params: [][]int{{1}, {2}}, Final: 'A'}, "\x1b[1;2A"},
	{api.Seq{Kind: api.CSI, Params: [][]int{{27}, {5}, {99}}, Final: '~'}, "\x1b[27;5;99~"},
	{api.Seq{Kind: api.CSI, Private: '<', Params: [][]int{{0}, {1}, {1}}, Final: 'M'}, "\x1b[<0;1;1M"},
	{api.Seq{Kind: api.CSI, Private: '=', Params: [][]int{{5}, {1}}, Final: 'u'}, "\x1b[=5;1u"},
	{api.Seq{Kind: api.CSI, Private: '>', Final: 'u'}, "\x1b[>u"},
	{api.Seq{Kind: api.CSI, Private: '?', Final: 'u'}, "\x1b[?u"},
	{api.Seq{Kind: api.CSI, Params: [][]int{{-1}, {-1}}, Final: 'H'}, "\x1b[;H"},
	{api.Seq{Kind: api.CSI, Params: [][]int{{-1}, {5}}, Final: 'H'}, "\x1b[;5H"},
	{api.Seq{Kind: api.CSI, Params: [][]int{{5}, {-1}}, Final: 'H'}, "\x1b[5;H"},
	{api.Seq{Kind: api.CSI, Params: [][]int{{-1}, {-1}, {-1}}, Final: 'H'}, "\x1b[;;H"},
	{api.Seq{Kind: api.CSI, Params: [][]int{{-1, -1}}, Final: 'u'}, "\x1b[:u"},
	{api.Seq{Kind: api.CSI, Params: [][]int{{-1, 3}}, Final: 'u'}, "\x1b[:3u"},
	{api.Seq{Kind: api.CSI, Params: [][]int{{3, -1}}, Final: 'u'}, "\x1b[3:u"},
	{api.Seq{Kind: api.CSI, Params: [][]int{{97, -1, 99}, {1, 3}, {97, 98}}, Final: 'u'}, "\x1b[97::99;1:3;97:98u"},
	{api.Seq{Kind: api.CSI, Params: [][]int{{4, 3}, {38, 2, -1, 1, 20, 255}, {-1}}, Final: 'm'}, "\x1b[4:3;38:2::1:20:255;m"},
	{api.Seq{Kind: api.CSI, Params: parts(16, 7), Final: 'm'}, "\x1b[7;7;7;7;7;7;7;7;7;7;7;7;7;7;7;7m"},
	{api.Seq{Kind: api.CSI, Params: parts(16, -1), Final: 'm'}, "\x1b[;;;;;;;;;;;;;;;m"},
	{api.Seq{Kind: api.CSI, Params: pieces(8, 7), Final: 'm'}, "\x1b[7:7:7:7:7:7:7:7m"},
	{api.Seq{Kind: api.CSI, Params: pieces(8, -1), Final: 'm'}, "\x1b[:::::::m"},
	{api.Seq{Kind: api.CSI, Params: [][]int{{1114110}, {1114111}}, Final: 'm'}, "\x1b[1114110;1114111m"},
	{api.Seq{Kind: api.CSI, Params: [][]int{{1114111}}, Final: 'm'}, "\x1b[1114111m"},
	{api.Seq{Kind: api.CSI, Inter: "!", Final: 'p'}, "\x1b[!p"},
	{api.Seq{Kind: api.CSI, Private: '?', Params: [][]int{{2004}}, Inter: "$", Final: 'p'}, "\x1b[?2004$p"},
	{api.Seq{Kind: api.CSI, Params: [][]int{{2}}, Inter: " ", Final: 'q'}, "\x1b[2 q"},
	{api.Seq{Kind: api.CSI, Private: '>', Params: [][]int{{-1}, {1, 2}}, Inter: " /", Final: '~'}, "\x1b[>;1:2 /~"},
	{api.Seq{Kind: api.CSI, Inter: "  ", Final: '['}, "\x1b[  ["},
	{api.Seq{Kind: api.SS3, Final: 'P'}, "\x1bOP"},
	{api.Seq{Kind: api.SS3, Params: [][]int{}, Final: '@'}, "\x1bO@"},
	{api.Seq{Kind: api.SS3, Final: '~'}, "\x1bO~"},
	{api.Seq{Kind: api.SS3, Final: 'O'}, "\x1bOO"},
	{api.Seq{Kind: api.DCS, Params: [][]int{{1}}, Inter: "$", Final: 'r'}, "\x1bP1$r\x1b\\"},
	{api.Seq{Kind: api.DCS, Params: [][]int{{1}}, Inter: "$", Final: 'r', Data: "0;1m"}, "\x1bP1$r0;1m\x1b\\"},
	{api.Seq{Kind: api.DCS, Inter: "+", Final: 'q', Data: "544E"}, "\x1bP+q544E\x1b\\"},
	{api.Seq{Kind: api.DCS, Private: '>', Final: '|', Data: "clavier"}, "\x1bP>|clavier\x1b\\"},
	{api.Seq{Kind: api.DCS, Private: '?', Params: [][]int{{-1, 2}, {3}}, Inter: "!!", Final: '@', Data: " ~"}, "\x1bP?:2;3!!@ ~\x1b\\"},
	{api.Seq{Kind: api.DCS, Final: '~'}, "\x1bP~\x1b\\"},
	{api.Seq{Kind: api.DCS, Final: 'q', Data: "\\[P]O"}, "\x1bPq\\[P]O\x1b\\"},
	{api.Seq{Kind: api.OSC}, "\x1b]\x1b\\"},
	{api.Seq{Kind: api.OSC, Data: "2;a title"}, "\x1b]2;a title\x1b\\"},
	{api.Seq{Kind: api.OSC, Data: "\\"}, "\x1b]\\\x1b\\"},
	{api.Seq{Kind: api.OSC, Data: "?<=>:;01 ~"}, "\x1b]?<=>:;01 ~\x1b\\"},
	{api.Seq{Kind: api.ESC, Final: 'c'}, "\x1bc"},
	{api.Seq{Kind: api.ESC, Final: '0'}, "\x1b0"},
	{api.Seq{Kind: api.ESC, Final: '='}, "\x1b="},
	{api.Seq{Kind: api.ESC, Final: '~'}, "\x1b~"},
	{api.Seq{Kind: api.ESC, Inter: "(", Final: 'B'}, "\x1b(B"},
	{api.Seq{Kind: api.ESC, Inter: " ", Final: 'G'}, "\x1b G"},
	{api.Seq{Kind: api.ESC, Inter: "#", Final: '8'}, "\x1b#8"},
	{api.Seq{Kind: api.ESC, Inter: "$(", Final: 'C'}, "\x1b$(C"},
	{api.Seq{Kind: api.ESC, Inter: "/", Final: '['}, "\x1b/["},
	{api.Seq{Kind: api.ESC, Inter: " /", Final: '\\'}, "\x1b /\\"},
}

// behind is what may stand behind a sequence.
var behind = []string{"", "A", "0", ";", ":", " ", "?", "~", "[", "\\", "\x1b", "\x1b\\", "\x1b[", "\x1b[?1;2c", "\x00", "\x18", "\x7f", "\x9b", "\xff", "\x1bP", "\x1b]0;a"}

func checkSeq(t *testing.T, s api.Seq, want string) {
	t.Helper()
	if err := May(s); err != api.OK {
		t.Errorf("May(%+v) = %v", s, err)
	}
	if b, err := Put(s); err != api.OK || string(b) != want {
		t.Errorf("Put(%+v) = %q, %v, not %q", s, b, err, want)
	}
	for _, more := range behind {
		b := []byte(want + more)
		back, count, err := Take(b)
		if err != api.OK || count != len(want) || !Same(back, s) || !same(back, s) {
			t.Errorf("Take(%q) = %+v, %d, %v, not %+v", b, back, count, err, s)
		}
		if string(b) != want+more {
			t.Errorf("Take changed %q to %q", want+more, b)
		}
	}
}

// same is Same, told by the library.
func same(a, b api.Seq) bool {
	plain := func(s api.Seq) api.Seq {
		params := [][]int{}
		for _, p := range s.Params {
			params = append(params, append([]int{}, p...))
		}
		s.Params = params
		return s
	}
	return reflect.DeepEqual(plain(a), plain(b))
}

// P3.1, P3.2 and P3.4: what may be, and its bytes, whatever stands behind them.
func TestKnownSequences(t *testing.T) {
	for _, k := range known {
		checkSeq(t, k.s, k.b)
	}
}

// P3.2: cut off anywhere, the bytes of a sequence begin none; also if the slice has room for the rest.
func TestBytesThatAreCutOff(t *testing.T) {
	for _, k := range known {
		whole := []byte(k.b)
		for cut := range len(whole) {
			if s, count, err := Take(whole[:cut]); err != api.ErrForm || count != 0 || !reflect.DeepEqual(s, api.Seq{}) {
				t.Errorf("Take(%q) = %+v, %d, %v", whole[:cut], s, count, err)
			}
		}
	}
}

// wrong are sequences that may not be.
var wrong = []api.Seq{
	{},
	// Kinds that are none.
	{Kind: 0, Final: 'A'}, {Kind: -1, Final: 'A'}, {Kind: 6, Final: 'A'}, {Kind: 7, Final: 'c'}, {Kind: math.MaxInt, Final: 'A'}, {Kind: math.MinInt, Final: 'A'},
	{Kind: 257, Final: 'A'}, {Kind: 1<<32 + 1, Final: 'A'}, {Kind: 0}, {Kind: 6}, {Kind: -4, Data: "a"}, {Kind: 6, Data: "a"},
	// One parameter more, one part more, none of one, or one that is out of bounds.
	{Kind: api.CSI, Params: parts(17, 1), Final: 'm'}, {Kind: api.CSI, Params: parts(17, -1), Final: 'm'}, {Kind: api.DCS, Params: parts(17, 1), Final: 'm'}, {Kind: api.CSI, Params: parts(1000, 1), Final: 'm'},
	{Kind: api.CSI, Params: pieces(9, 1), Final: 'm'}, {Kind: api.CSI, Params: pieces(9, -1), Final: 'm'}, {Kind: api.DCS, Params: pieces(9, 1), Final: 'm'}, {Kind: api.CSI, Params: pieces(1000, 1), Final: 'm'},
	{Kind: api.CSI, Params: append(parts(15, 1), slices.Repeat([]int{1}, 9)), Final: 'm'}, {Kind: api.CSI, Params: append(pieces(9, 1), []int{1}), Final: 'm'},
	{Kind: api.CSI, Params: [][]int{{}}, Final: 'm'}, {Kind: api.CSI, Params: [][]int{nil}, Final: 'm'}, {Kind: api.CSI, Params: [][]int{{1}, {}}, Final: 'm'}, {Kind: api.CSI, Params: [][]int{nil, {1}}, Final: 'm'},
	{Kind: api.CSI, Params: [][]int{{1}, nil, {1}}, Final: 'm'}, {Kind: api.DCS, Params: [][]int{nil}, Final: 'm'}, {Kind: api.CSI, Params: [][]int{{}, {}}, Final: 'm'},
	{Kind: api.CSI, Params: [][]int{{1114112}}, Final: 'm'}, {Kind: api.CSI, Params: [][]int{{-2}}, Final: 'm'}, {Kind: api.CSI, Params: [][]int{{-2}, {1}}, Final: 'm'}, {Kind: api.CSI, Params: [][]int{{-2, 1}}, Final: 'm'},
	{Kind: api.CSI, Params: [][]int{{1}, {1114112}}, Final: 'm'}, {Kind: api.CSI, Params: [][]int{{1, 2, 1114112, 3}}, Final: 'm'}, {Kind: api.CSI, Params: [][]int{{1}, {2, -2}, {3}}, Final: 'm'}, {Kind: api.CSI, Params: [][]int{{1}, {2, 3}, {3, -2}}, Final: 'm'},
	{Kind: api.CSI, Params: [][]int{{math.MaxInt}}, Final: 'm'}, {Kind: api.CSI, Params: [][]int{{math.MinInt}}, Final: 'm'}, {Kind: api.CSI, Params: [][]int{{1<<32 + 1}}, Final: 'm'}, {Kind: api.CSI, Params: [][]int{{-1 << 32}}, Final: 'm'},
	{Kind: api.DCS, Params: [][]int{{1114112}}, Final: 'm'}, {Kind: api.DCS, Params: [][]int{{1}, {-2}}, Final: 'm'},
	// A single parameter of one part -1, which would be as none.
	{Kind: api.CSI, Params: [][]int{{-1}}, Final: 'm'}, {Kind: api.CSI, Private: '?', Params: [][]int{{-1}}, Final: 'm'}, {Kind: api.DCS, Params: [][]int{{-1}}, Inter: "$", Final: 'q', Data: "m"},
	// One byte of Inter more, or one that is out of bounds.
	{Kind: api.CSI, Inter: "!!!", Final: 'p'}, {Kind: api.DCS, Inter: "   ", Final: 'p'}, {Kind: api.ESC, Inter: "///", Final: 'p'},
	{Kind: api.CSI, Inter: "!0", Final: 'p'}, {Kind: api.CSI, Inter: "\x1f!", Final: 'p'}, {Kind: api.DCS, Inter: "0", Final: 'p'}, {Kind: api.ESC, Inter: "\x1f", Final: 'p'}, {Kind: api.ESC, Inter: "(0", Final: 'p'}, {Kind: api.ESC, Inter: "é", Final: 'p'},
	// What the kind has not.
	{Kind: api.CSI, Final: 'A', Data: "a"}, {Kind: api.SS3, Final: 'A', Data: "a"}, {Kind: api.ESC, Final: 'c', Data: "a"}, {Kind: api.ESC, Inter: "(", Final: 'c', Data: " "},
	{Kind: api.SS3, Private: '?', Final: 'A'}, {Kind: api.OSC, Private: '?'}, {Kind: api.ESC, Private: '?', Final: 'c'}, {Kind: api.ESC, Private: '<', Inter: "(", Final: 'c'},
	{Kind: api.SS3, Params: [][]int{{1}}, Final: 'A'}, {Kind: api.OSC, Params: [][]int{{1}}}, {Kind: api.ESC, Params: [][]int{{1}}, Final: 'c'},
	{Kind: api.SS3, Params: [][]int{{1}, {2}}, Final: 'A'}, {Kind: api.OSC, Params: [][]int{{1}, {2}}, Data: "a"}, {Kind: api.ESC, Params: [][]int{{1}, {2}}, Inter: "(", Final: 'c'},
	{Kind: api.SS3, Inter: " ", Final: 'A'}, {Kind: api.OSC, Inter: " "}, {Kind: api.OSC, Inter: "!!", Data: "a"},
	{Kind: api.OSC, Final: 'A'}, {Kind: api.OSC, Final: 'c', Data: "0;a"}, {Kind: api.OSC, Final: 7, Data: "0;a"}, {Kind: api.OSC, Final: '\\'},
	{Kind: api.CSI}, {Kind: api.SS3}, {Kind: api.DCS}, {Kind: api.ESC}, {Kind: api.DCS, Data: "a"}, {Kind: api.ESC, Inter: "("}, {Kind: api.CSI, Params: [][]int{{1}}},
	// Bytes of Data that are out of bounds.
	{Kind: api.DCS, Final: 'q', Data: "\x1f"}, {Kind: api.OSC, Data: "\x1f"}, {Kind: api.OSC, Data: "a\x7f"}, {Kind: api.OSC, Data: "\x1b\\"}, {Kind: api.OSC, Data: "a\x00b"}, {Kind: api.OSC, Data: "é"}, {Kind: api.OSC, Data: strings.Repeat("a", 4095) + "\n"},
}

// P3.1 and P3.2: ErrArg of each, and no bytes.
func TestSequencesThatMayNotBe(t *testing.T) {
	for _, s := range wrong {
		checkRefused(t, s, api.ErrArg)
	}
}

func checkRefused(t *testing.T, s api.Seq, want api.Errno) {
	t.Helper()
	if err := May(s); err != want {
		t.Errorf("May(%+v) = %v, not %v", s, err, want)
	}
	if b, err := Put(s); err != want || len(b) != 0 {
		t.Errorf("Put(%+v) = %q, %v, not %v", s, b, err, want)
	}
}

// P3.1 and P3.2: Data of 4096 bytes and of one more; ErrLong is told ahead of whatever else is wrong.
func TestLongData(t *testing.T) {
	most := strings.Repeat("a~ ", 1365) + "z"
	checkSeq(t, api.Seq{Kind: api.OSC, Data: most}, "\x1b]"+most+"\x1b\\")
	checkSeq(t, api.Seq{Kind: api.DCS, Params: [][]int{{1}}, Inter: "+", Final: 'r', Data: most}, "\x1bP1+r"+most+"\x1b\\")
	checkRefused(t, api.Seq{Kind: api.CSI, Final: 'A', Data: most}, api.ErrArg)
	more := most + "a"
	for _, s := range []api.Seq{{Kind: api.OSC}, {Kind: api.DCS, Final: 'q'}, {Kind: api.CSI, Final: 'A'}, {Kind: api.SS3, Final: 'A'}, {Kind: api.ESC, Final: 'c'}} {
		s.Data = more
		checkRefused(t, s, api.ErrLong)
	}
	for _, s := range wrong {
		for _, data := range []string{more, strings.Repeat("\x1b", 4097), strings.Repeat("a", 100000)} {
			s.Data = data
			checkRefused(t, s, api.ErrLong)
		}
	}
	for _, b := range []string{"\x1b]" + more + "\x1b\\", "\x1bPq" + more + "\x1b\\", "\x1b]" + most, "\x1b]" + more, "\x1b]" + strings.Repeat("a", 100000) + "\x1b\\"} {
		checkNone(t, b)
	}
}

// finals are the bytes that each kind may have as Final, without Inter and with it.
func finals(kind int, inter bool) string {
	const letters = "@ABCDEFGHIJKLMNOPQRSTUVWXYZ[\\]^_`abcdefghijklmnopqrstuvwxyz{|}~"
	switch {
	case kind == api.ESC && inter:
		return "0123456789:;<=>?" + letters
	case kind == api.ESC:
		return "0123456789:;<=>?@ABCDEFGHIJKLMNQRSTUVWYZ`abcdefghijklmnopqrstuvwxyz{|}~"
	case kind == api.OSC:
		return "\x00"
	}
	return letters
}

// P3.1 and P3.2: each byte as Final of each kind, with Inter and without.
func TestEachFinal(t *testing.T) {
	for kind := api.CSI; kind <= api.ESC; kind++ {
		for _, inter := range []string{"", " ", "/!"} {
			for c := range 256 {
				s := api.Seq{Kind: kind, Inter: inter, Final: byte(c)}
				may := strings.IndexByte(finals(kind, inter != ""), byte(c)) >= 0
				if inter != "" && (kind == api.SS3 || kind == api.OSC) {
					may = false
				}
				checkWhether(t, s, may)
			}
		}
	}
}

func checkWhether(t *testing.T, s api.Seq, may bool) {
	t.Helper()
	if !may {
		checkRefused(t, s, api.ErrArg)
		return
	}
	checkSeq(t, s, plain(s))
}

// plain is a sequence's bytes, as the chapter's words have them.
func plain(s api.Seq) string {
	body := ""
	if s.Private != 0 {
		body += string(rune(s.Private))
	}
	for i, p := range s.Params {
		if i > 0 {
			body += ";"
		}
		for j, n := range p {
			if j > 0 {
				body += ":"
			}
			if n >= 0 {
				body += strconv.Itoa(n)
			}
		}
	}
	body += s.Inter
	switch s.Kind {
	case api.CSI:
		return "\x1b[" + body + string(rune(s.Final))
	case api.SS3:
		return "\x1bO" + string(rune(s.Final))
	case api.DCS:
		return "\x1bP" + body + string(rune(s.Final)) + s.Data + "\x1b\\"
	case api.OSC:
		return "\x1b]" + s.Data + "\x1b\\"
	}
	return "\x1b" + s.Inter + string(rune(s.Final))
}

// P3.1 and P3.2: each byte as Private, in Inter and in Data.
func TestEachByteOfTheRest(t *testing.T) {
	for c := range 256 {
		one := string([]byte{byte(c)})
		private := c == 0 || strings.Contains("<=>?", one)
		inter := strings.Contains(" !\"#$%&'()*+,-./", one)
		data := 32 <= c && c <= 126
		for _, kind := range []int{api.CSI, api.DCS} {
			checkWhether(t, api.Seq{Kind: kind, Private: byte(c), Final: 'q'}, private)
			checkWhether(t, api.Seq{Kind: kind, Private: byte(c), Params: [][]int{{1}, {2}}, Inter: "$", Final: 'q'}, private)
		}
		for _, kind := range []int{api.SS3, api.ESC} {
			checkWhether(t, api.Seq{Kind: kind, Private: byte(c), Final: 'q'}, c == 0)
		}
		for _, kind := range []int{api.CSI, api.DCS, api.ESC} {
			checkWhether(t, api.Seq{Kind: kind, Inter: one, Final: 'q'}, inter)
			checkWhether(t, api.Seq{Kind: kind, Inter: "!" + one, Final: 'q'}, inter)
			checkWhether(t, api.Seq{Kind: kind, Inter: one + "!", Final: 'q'}, inter)
		}
		for _, around := range []string{"", "a", "\\"} {
			checkWhether(t, api.Seq{Kind: api.DCS, Final: 'q', Data: around + one + around}, data)
			checkWhether(t, api.Seq{Kind: api.OSC, Data: around + one + around}, data)
		}
		checkWhether(t, api.Seq{Kind: api.OSC, Private: byte(c)}, c == 0)
		checkWhether(t, api.Seq{Kind: api.CSI, Final: 'q', Data: one}, false)
	}
}

// P3.1 and P3.2: each number as a part, about all bounds, and the counts of parameters and of parts.
func TestEachPart(t *testing.T) {
	for _, n := range []int{-1, 0, 1, 9, 10, 99, 100, 65535, 65536, 999999, 1000000, 1114110, 1114111} {
		for _, l := range [][][]int{{{n}, {n}}, {{n, n}}, {{1}, {n}}, {{n}, {1}}, {{1, n}}, {{n, 1}}, {{1, n, 1}, {n, 1}}} {
			checkWhether(t, api.Seq{Kind: api.CSI, Params: l, Final: 'm'}, true)
			checkWhether(t, api.Seq{Kind: api.DCS, Params: l, Final: 'm', Data: "1"}, true)
		}
		checkWhether(t, api.Seq{Kind: api.CSI, Params: [][]int{{n}}, Final: 'm'}, n >= 0)
		for count := range 20 {
			checkWhether(t, api.Seq{Kind: api.CSI, Params: parts(count, n), Final: 'm'}, count <= 16 && (count != 1 || n >= 0))
			checkWhether(t, api.Seq{Kind: api.CSI, Params: pieces(count, n), Final: 'm'}, 1 <= count && count <= 8 && (count != 1 || n >= 0))
		}
	}
	most := [][]int{}
	for range 16 {
		most = append(most, slices.Repeat([]int{1114111}, 8))
	}
	checkWhether(t, api.Seq{Kind: api.CSI, Private: '>', Params: most, Inter: "//", Final: '~'}, true)
}

// noBegins are bytes with which no sequence begins.
var noBegins = []string{
	"", "A", "\x1b", "\x00", "[", "[A", " \x1b[A", "A\x1b[A", "\x9bA", "\x9b1A", "\x8fP", "\xc2\x9bA", "\x1b\x1b[A", "\x1b\x1b",
	// Behind the escape byte alone, what begins another kind, or a string, or ends one.
	"\x1b[", "\x1bO", "\x1bP", "\x1b]", "\x1bX", "\x1b^", "\x1b_", "\x1b\\", "\x1bXa\x1b\\", "\x1b^a\x1b\\", "\x1b_a\x1b\\", "\x1b\\a", "\x1b\x00", "\x1b\n", "\x1b\x7f", "\x1b\x80", "\x1b\xc3\xa9", "\x1b\xff",
	"\x1b!!!p", "\x1b(", "\x1b((", "\x1b(\x1bB", "\x1b(\x7f", "\x1b(\x00B", "\x1b(\xff",
	// No Final, or another one.
	"\x1b[1", "\x1b[1;2", "\x1b[?", "\x1b[\x1b[A", "\x1b[1\x1bA", "\x1b[\x7f", "\x1b[1\x7f", "\x1b[\x18c", "\x1b[1\x18c", "\x1b[1\x00c", "\x1b[\xff", "\x1b[\x80", "\x1b[1\n2A", "\x1b[\xc3\xa9",
	"\x1bO1", "\x1bO1A", "\x1bO?", "\x1bO A", "\x1bO;A", "\x1bO\x1bA", "\x1bO\x7f", "\x1bO?A",
	// What stands at another place than its own, or too often.
	"\x1b[1?A", "\x1b[??1A", "\x1b[?>1A", "\x1b[1>A", "\x1b[;?A", "\x1b[!1p", "\x1b[1!2p", "\x1b[!?p", "\x1b[!;p", "\x1b[!:p", "\x1b[!!!p", "\x1b[1   q", "\x1b[1;2<A",
	// Figures that aren't written so, and numbers that are too great.
	"\x1b[00m", "\x1b[01m", "\x1b[007m", "\x1b[1;02m", "\x1b[1:02m", "\x1b[0000001m", "\x1b[00;1m", "\x1b[00:1m", "\x1b[01114111m", "\x1bP01$r\x1b\\", "\x1b[-1m", "\x1b[+1m", "\x1b[1.5m",
	"\x1b[1114112m", "\x1b[1114119m", "\x1b[2000000m", "\x1b[9999999m", "\x1b[11141110m", "\x1b[11141111m", "\x1b[1114111000m", "\x1b[99999999999999999999m", "\x1b[18446744073709551617m", "\x1b[4294967297m", "\x1b[1;1114112m", "\x1b[1:1114112m", "\x1b[1114112;1m", "\x1b[1114112:1m", "\x1bP1114112$r\x1b\\",
	// One parameter more, one part more.
	"\x1b[;;;;;;;;;;;;;;;;m", "\x1b[1;2;3;4;5;6;7;8;9;10;11;12;13;14;15;16;17m", "\x1b[1;2;3;4;5;6;7;8;9;10;11;12;13;14;15;16;m", "\x1b[1;2;3;4;5;6;7;8;9;10;11;12;13;14;15;16;$m", "\x1b[1:2:3:4:5:6:7:8:9m", "\x1b[1:2:3:4:5:6:7:8:m", "\x1b[::::::::m", "\x1b[1:2:3:4:5:6:7:8:;1m", "\x1b[1;::::::::m", "\x1b[1:2:3:4:5:6:7:8:$m",
	"\x1bP;;;;;;;;;;;;;;;;m\x1b\\", "\x1bP::::::::m\x1b\\",
	// Strings without their end, or with another one.
	"\x1b]a", "\x1b]a\x07", "\x1b]a\x1b", "\x1b]a\x1bA", "\x1b]a\x1b[A", "\x1b]a\x9c", "\x1b]a\x1b\x1b\\", "\x1b]a\x00\x1b\\", "\x1b]a\n\x1b\\", "\x1b]a\x7f\x1b\\", "\x1b]\xc3\xa9\x1b\\", "\x1b]\\", "\x1b]\x18\x1b\\",
	"\x1bPq", "\x1bPqa", "\x1bPqa\x07", "\x1bPqa\x1b", "\x1bPqa\x1bP", "\x1bPqa\x9c", "\x1bPqa\x7f\x1b\\", "\x1bPq\x1b\x1b\\", "\x1bP\x1b\\", "\x1bP1\x1b\\", "\x1bP1$\x1b\\", "\x1bP?\x1b\\", "\x1bP1?q\x1b\\", "\x1bP!!!q\x1b\\", "\x1bP\x7fq\x1b\\",
}

func checkNone(t *testing.T, b string) {
	t.Helper()
	if s, count, err := Take([]byte(b)); err != api.ErrForm || count != 0 || !reflect.DeepEqual(s, api.Seq{}) {
		t.Errorf("Take(%q) = %+v, %d, %v", b, s, count, err)
	}
}

// P3.2: ErrForm, and nothing else, of bytes with which no sequence begins.
func TestTakeRefuses(t *testing.T) {
	if s, count, err := Take(nil); err != api.ErrForm || count != 0 || !reflect.DeepEqual(s, api.Seq{}) {
		t.Errorf("Take(nil) = %+v, %d, %v", s, count, err)
	}
	for _, b := range noBegins {
		checkNone(t, b)
	}
	// What isn't wrong yet for want of more, and what no more can mend.
	for _, b := range []string{"\x1b[\x18", "\x1b\\", "\x1b[00", "\x1b[1?", "\x1b]\x07", "\x1bP\x1b\\", "\x1b[1114112"} {
		for _, more := range behind {
			checkNone(t, b+more)
		}
	}
}

var forms = func() []*regexp.Regexp {
	const number = `(?:0|[1-9][0-9]{0,5}|10[0-9]{5}|110[0-9]{4}|111[0-3][0-9]{3}|11140[0-9]{2}|11141(?:0[0-9]|1[01]))?`
	const parts = number + `(?::` + number + `){0,7}`
	const body = `([<=>?])?(` + parts + `(?:;` + parts + `){0,15})([ -/]{0,2})`
	return []*regexp.Regexp{
		regexp.MustCompile(`^\x1b\[` + body + `([@-~])()`),
		regexp.MustCompile(`^\x1bO()()()([@-~])()`),
		regexp.MustCompile(`^\x1bP` + body + `([@-~])([ -~]*)\x1b\\`),
		regexp.MustCompile(`^\x1b\]()()()()([ -~]*)\x1b\\`),
		regexp.MustCompile(`^\x1b()()(?:([ -/]{1,2})([0-~])|()([0-NQ-WYZ` + "`" + `a-~]))`),
	}
}()

// take is Take by the forms above: the sequence, how many bytes it has, and of how many kinds it could be.
func take(b []byte) (api.Seq, int, int) {
	s, count, kinds := api.Seq{}, 0, 0
	for i, f := range forms {
		m := f.FindSubmatch(b)
		if m == nil || len(m[5]) > 4096 {
			continue
		}
		kinds++
		count = len(m[0])
		s = api.Seq{Kind: i + 1, Inter: string(m[3]), Data: string(m[5])}
		final := m[4]
		if s.Kind == api.ESC {
			final = append(slices.Clone(m[4]), m[6]...)
			s.Data = ""
		}
		if len(m[1]) > 0 {
			s.Private = m[1][0]
		}
		if len(final) > 0 {
			s.Final = final[0]
		}
		if len(m[2]) == 0 {
			continue
		}
		for _, p := range strings.Split(string(m[2]), ";") {
			var l []int
			for _, n := range strings.Split(p, ":") {
				value, err := strconv.Atoi(n)
				if err != nil {
					value = -1
				}
				l = append(l, value)
			}
			s.Params = append(s.Params, l)
		}
	}
	return s, count, kinds
}

func checkTake(t *testing.T, b []byte) bool {
	t.Helper()
	want, size, kinds := take(b)
	s, count, err := Take(b)
	switch {
	case kinds > 1:
		t.Fatalf("%q could be %d sequences", b, kinds)
	case kinds == 0 && (err != api.ErrForm || count != 0 || !reflect.DeepEqual(s, api.Seq{})):
		t.Fatalf("Take(%q) = %+v, %d, %v", b, s, count, err)
	case kinds == 1 && (err != api.OK || count != size || !same(s, want)):
		t.Fatalf("Take(%q) = %+v, %d, %v, not %+v, %d", b, s, count, err, want, size)
	case kinds == 1 && May(s) != api.OK:
		t.Fatalf("Take(%q) = %+v, which may not be", b, s)
	}
	if kinds == 0 {
		return false
	}
	if back, err := Put(s); err != api.OK || !bytes.Equal(back, b[:count]) {
		t.Fatalf("%q is %+v, and back: %q, %v", b, s, back, err)
	}
	return true
}

// P3.2 and P3.4: all short rows of bytes that matter, against the forms; what Take tells has just the bytes that it took.
func TestEachShortRow(t *testing.T) {
	const alphabet = "\x1b[OP]\\X_^0159:;<? /@m~\x07\x18\x7f\x80"
	found := 0
	for _, head := range []string{"", "\x1b", "\x1b[", "\x1b[1", "\x1b[?1;", "\x1b[111411", "\x1b]", "\x1bP", "\x1bP1$", "\x1b(", "\x1bO"} {
		rows := []string{head}
		for range 4 {
			var longer []string
			for _, row := range rows {
				if checkTake(t, []byte(row)) {
					found++
					continue // What stands behind doesn't matter; that is held elsewhere.
				}
				for i := range len(alphabet) {
					longer = append(longer, row+alphabet[i:i+1])
				}
			}
			rows = longer
		}
	}
	if found < 2500 {
		t.Errorf("only %d sequences", found)
	}
}

// P3.2: each beginning of three bytes behind the escape byte.
func TestEachBegin(t *testing.T) {
	for a := range 256 {
		checkTake(t, []byte{byte(a)})
		checkTake(t, []byte{27, byte(a)})
		for b := range 256 {
			checkTake(t, []byte{byte(a), byte(b)})
			checkTake(t, []byte{27, byte(a), byte(b)})
			checkTake(t, []byte{27, '[', byte(a), byte(b)})
			checkTake(t, []byte{27, '[', byte(a), byte(b), 'm'})
			checkTake(t, []byte{27, 'P', byte(a), byte(b), 27, '\\'})
			checkTake(t, []byte{27, ']', byte(a), byte(b), 27, '\\'})
			checkTake(t, []byte{27, ']', 'a', 'b', byte(a), byte(b)})
		}
	}
}

// P3.2: every number there may be, and those beyond.
func TestEachNumber(t *testing.T) {
	for n := range 1200000 {
		b := []byte("\x1b[" + strconv.Itoa(n) + "m")
		s, count, err := Take(b)
		if n > 1114111 {
			if err != api.ErrForm || count != 0 || !reflect.DeepEqual(s, api.Seq{}) {
				t.Fatalf("Take(%q) = %+v, %d, %v", b, s, count, err)
			}
			continue
		}
		if err != api.OK || count != len(b) || len(s.Params) != 1 || len(s.Params[0]) != 1 || s.Params[0][0] != n {
			t.Fatalf("Take(%q) = %+v, %d, %v", b, s, count, err)
		}
		if back, err := Put(s); err != api.OK || !bytes.Equal(back, b) {
			t.Fatalf("%d and back: %q, %v", n, back, err)
		}
	}
}

// P3.3: Num.
func TestNum(t *testing.T) {
	for _, c := range []struct {
		private, final byte
		nums           []int
		want           api.Seq
	}{
		{0, 'A', nil, api.Seq{Kind: api.CSI, Final: 'A'}},
		{0, 'A', []int{}, api.Seq{Kind: api.CSI, Final: 'A'}},
		{'?', 'c', []int{1, 2}, api.Seq{Kind: api.CSI, Private: '?', Params: [][]int{{1}, {2}}, Final: 'c'}},
		{'<', 'M', []int{0, 1, 1}, api.Seq{Kind: api.CSI, Private: '<', Params: [][]int{{0}, {1}, {1}}, Final: 'M'}},
		{0, 'm', []int{-1}, api.Seq{Kind: api.CSI, Params: [][]int{{-1}}, Final: 'm'}},
		{0, 'm', []int{-1, 5}, api.Seq{Kind: api.CSI, Params: [][]int{{-1}, {5}}, Final: 'm'}},
		{200, 255, []int{math.MinInt, math.MaxInt}, api.Seq{Kind: api.CSI, Private: 200, Params: [][]int{{math.MinInt}, {math.MaxInt}}, Final: 255}},
		{0, 0, nil, api.Seq{Kind: api.CSI}},
		{0, 'm', slices.Repeat([]int{7}, 17), api.Seq{Kind: api.CSI, Params: parts(17, 7), Final: 'm'}},
	} {
		if s := Num(c.private, c.final, c.nums...); !same(s, c.want) || !Same(s, c.want) {
			t.Errorf("Num(%d, %d, %v) = %+v", c.private, c.final, c.nums, s)
		}
	}
	if b, err := Put(Num('?', 'c', 1, 2)); err != api.OK || string(b) != "\x1b[?1;2c" {
		t.Errorf("CSI ? 1;2 c: %q, %v", b, err)
	}
}

// P3.3: Same: whatever differs counts; nil and empty don't differ.
func TestSame(t *testing.T) {
	l := []api.Seq{
		{}, {Kind: 1}, {Kind: 2}, {Kind: 1<<32 + 1}, {Private: '?'}, {Private: '>'}, {Inter: " "}, {Inter: "  "}, {Inter: "!"}, {Final: 'A'}, {Final: 'a'}, {Data: "A"}, {Data: "a"}, {Data: "aa"}, {Data: "\x00"},
		{Params: [][]int{{}}}, {Params: [][]int{{}, {}}}, {Params: [][]int{{-1}}}, {Params: [][]int{{-2}}}, {Params: [][]int{{0}}}, {Params: [][]int{{1}}}, {Params: [][]int{{1}, {}}}, {Params: [][]int{{}, {1}}},
		{Params: [][]int{{1}, {2}}}, {Params: [][]int{{1, 2}}}, {Params: [][]int{{2}, {1}}}, {Params: [][]int{{2, 1}}}, {Params: [][]int{{1}, {2}, {3}}}, {Params: [][]int{{1, 2}, {3}}}, {Params: [][]int{{1}, {2, 3}}}, {Params: [][]int{{1, 2, 3}}}, {Params: [][]int{{1}, {2, 4}}},
		{Kind: 1, Private: '?', Params: [][]int{{1}, {2}}, Inter: "$", Final: 'c', Data: "a"},
		{Kind: 1, Private: '?', Params: [][]int{{1}, {2}}, Inter: "$", Final: 'c', Data: "b"},
		{Kind: 1, Private: '?', Params: [][]int{{1}, {2}}, Inter: "$", Final: 'd', Data: "a"},
		{Kind: 1, Private: '?', Params: [][]int{{1}, {2}}, Inter: "%", Final: 'c', Data: "a"},
		{Kind: 1, Private: '?', Params: [][]int{{1}, {3}}, Inter: "$", Final: 'c', Data: "a"},
		{Kind: 1, Private: '=', Params: [][]int{{1}, {2}}, Inter: "$", Final: 'c', Data: "a"},
		{Kind: 3, Private: '?', Params: [][]int{{1}, {2}}, Inter: "$", Final: 'c', Data: "a"},
	}
	for i, a := range l {
		for j, b := range l {
			if Same(a, b) != (i == j) {
				t.Errorf("Same(%+v, %+v) = %v", a, b, i != j)
			}
		}
	}
	for _, c := range [][2][][]int{{nil, {}}, {{nil}, {{}}}, {{{1}, nil}, {{1}, {}}}, {{{1, 2}}, {{1, 2}}}} {
		a, b := api.Seq{Kind: 1, Params: c[0]}, api.Seq{Kind: 1, Params: c[1]}
		if !Same(a, b) || !Same(b, a) {
			t.Errorf("Same(%+v, %+v) = false", a, b)
		}
	}
}

// P3.3: Arg.
func TestArg(t *testing.T) {
	s := api.Seq{Params: [][]int{{5, 6}, {-1, 7}, {}, nil, {0}, {-2}, {math.MaxInt}, {math.MinInt, 3}, {1114112}}}
	for i, want := range map[int]int{0: 5, 1: 42, 2: 42, 3: 42, 4: 0, 5: 42, 6: math.MaxInt, 7: 42, 8: 1114112, 9: 42, 10: 42, -1: 42, -9: 42, math.MaxInt: 42, math.MinInt: 42, 1 << 32: 42} {
		if n := Arg(s, i, 42); n != want {
			t.Errorf("Arg(%d) = %d, not %d", i, n, want)
		}
	}
	for _, otherwise := range []int{0, 1, -1, math.MinInt, math.MaxInt} {
		for _, i := range []int{-1, 0, 1} {
			if n := Arg(api.Seq{}, i, otherwise); n != otherwise {
				t.Errorf("Arg of none: %d, not %d", n, otherwise)
			}
		}
		if n := Arg(s, 1, otherwise); n != otherwise {
			t.Errorf("Arg below 0: %d, not %d", n, otherwise)
		}
	}
	if n := Arg(Num(0, 'H', 3, 4), 1, 1); n != 4 {
		t.Errorf("Arg of CSI 3;4 H: %d", n)
	}
}

// some makes a sequence that may be.
func some(r *rand.Rand) api.Seq {
	s := api.Seq{Kind: 1 + r.Intn(5)}
	text := func(low, high, most int) string {
		b := make([]byte, r.Intn(most+1))
		for i := range b {
			b[i] = byte(low + r.Intn(high-low+1))
		}
		return string(b)
	}
	if s.Kind == api.CSI || s.Kind == api.DCS {
		s.Private = "\x00\x00<=>?"[r.Intn(6)]
		for range r.Intn(17) * r.Intn(2) {
			var l []int
			for range 1 + r.Intn(8)*r.Intn(2) {
				l = append(l, []int{-1, 0, r.Intn(10), r.Intn(1114112), 1114111}[r.Intn(5)])
			}
			s.Params = append(s.Params, l)
		}
		if len(s.Params) == 1 && len(s.Params[0]) == 1 && s.Params[0][0] < 0 {
			s.Params = nil
		}
	}
	if s.Kind != api.SS3 && s.Kind != api.OSC {
		s.Inter = text(32, 47, 2)
	}
	if s.Kind == api.DCS || s.Kind == api.OSC {
		s.Data = text(32, 126, 40)
	}
	l := finals(s.Kind, s.Inter != "")
	s.Final = l[r.Intn(len(l))]
	return s
}

// P3.4: a list of sequences, one behind the other, is taken apart again, with anything behind it.
func TestListsThereAndBack(t *testing.T) {
	r := rand.New(rand.NewSource(3))
	for range 3000 {
		var l []api.Seq
		var all []byte
		for range r.Intn(12) {
			s := some(r)
			b, err := Put(s)
			if err != api.OK || string(b) != plain(s) {
				t.Fatalf("Put(%+v) = %q, %v", s, b, err)
			}
			l, all = append(l, s), append(all, b...)
		}
		more := behind[r.Intn(len(behind))]
		b := append(slices.Clone(all), more...)
		at := 0
		for _, want := range l {
			s, count, err := Take(b[at:])
			if err != api.OK || !same(s, want) || !Same(s, want) || count != len(plain(want)) {
				t.Fatalf("Take(%q) = %+v, %d, %v, not %+v", b[at:], s, count, err, want)
			}
			at += count
		}
		if at != len(all) || string(b) != string(all)+more {
			t.Fatalf("%d bytes of %d", at, len(all))
		}
	}
}

// P3.4: no two sequences have the same bytes, nor does one begin with another's.
func TestNoBytesOfTwo(t *testing.T) {
	r := rand.New(rand.NewSource(4))
	seen := map[string]api.Seq{}
	for _, k := range known {
		seen[k.b] = k.s
	}
	for range 50000 {
		s := some(r)
		b, _ := Put(s)
		if other, ok := seen[string(b)]; ok && !same(s, other) {
			t.Fatalf("%q is %+v, and %+v", b, s, other)
		}
		seen[string(b)] = s
	}
	l := make([]string, 0, len(seen))
	for b := range seen {
		l = append(l, b)
	}
	slices.Sort(l)
	for i := range l[1:] {
		if strings.HasPrefix(l[i+1], l[i]) {
			t.Fatalf("%q begins with %q", l[i+1], l[i])
		}
	}
}

// R3, R4: each answer is the caller's own, and nothing that is handed in changes.
func TestAnswersShareNothing(t *testing.T) {
	s := api.Seq{Kind: api.CSI, Params: [][]int{{1, 2}, {3}}, Final: 'm'}
	b, _ := Put(s)
	first, _, _ := Take(b)
	second, _, _ := Take(b)
	b[2] = '9'
	if !same(first, s) || !same(s, api.Seq{Kind: api.CSI, Params: [][]int{{1, 2}, {3}}, Final: 'm'}) {
		t.Errorf("changed: %+v, %+v", first, s)
	}
	first.Params[0] = append(first.Params[0], 4, 5, 6)
	first.Params[0][0] = 8
	first.Params = append(first.Params[:1], []int{7})
	if !same(second, s) {
		t.Errorf("one changed another: %+v", second)
	}
	if again, _ := Put(s); string(again) != "\x1b[1:2;3m" {
		t.Errorf("Put again: %q", again)
	}
	_ = append(second.Params[0], 9)
	if second.Params[1][0] != 3 {
		t.Errorf("a parameter lies behind another: %+v", second)
	}
	data := []byte("\x1b]abc\x1b\\")
	o, _, _ := Take(data)
	data[2] = 'z'
	if o.Data != "abc" {
		t.Errorf("Data changed: %q", o.Data)
	}
	nums := []int{1, 2, 3}
	n := Num(0, 'm', nums...)
	nums[0] = 9
	_ = append(n.Params[0], 8)
	n.Params[1][0] = 7
	if !same(n, api.Seq{Kind: api.CSI, Params: [][]int{{1}, {7}, {3}}, Final: 'm'}) || !slices.Equal(nums, []int{9, 2, 3}) {
		t.Errorf("Num shares: %+v, %v", n, nums)
	}
}

// P1: every call ends, and none panics, at whatever it is given.
func TestNoCallPanics(t *testing.T) {
	l := slices.Clone(wrong)
	for _, k := range known {
		l = append(l, k.s)
	}
	for _, a := range l {
		for _, b := range l {
			mixed := api.Seq{Kind: a.Kind, Private: b.Private, Params: b.Params, Inter: a.Inter, Final: a.Final, Data: b.Data}
			told, err := Put(mixed)
			if err != May(mixed) || (err == api.OK) != (len(told) > 0) {
				t.Fatalf("Put(%+v) = %q, %v", mixed, told, err)
			}
			if back, count, taken := Take(told); err == api.OK && (taken != api.OK || count != len(told) || !same(back, mixed)) {
				t.Fatalf("%+v is %q, and back: %+v, %d, %v", mixed, told, back, count, taken)
			}
			if Same(a, b) != same(a, b) {
				t.Fatalf("Same(%+v, %+v)", a, b)
			}
			for i := -2; i < 20; i++ {
				Arg(mixed, i, i)
			}
		}
	}
	rows := slices.Clone(noBegins)
	for _, k := range known {
		rows = append(rows, k.b)
	}
	for _, p := range rows {
		for _, q := range rows {
			checkTake(t, []byte(p+q))
		}
	}
	long := strings.Repeat("1", 1000000)
	for _, b := range []string{"\x1b[" + long, "\x1b[" + long + "m", "\x1b[" + strings.Repeat(";", 1000000) + "m", "\x1b[" + strings.Repeat(":", 1000000) + "m", "\x1b[" + strings.Repeat("!", 1000000) + "p", "\x1b]" + long + "\x1b\\", "\x1bP" + long + "\x1b\\", long, strings.Repeat("\x1b", 1000000)} {
		checkNone(t, b)
	}
}
