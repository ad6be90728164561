package host

import (
	"bytes"
	"math/rand"
	"reflect"
	"slices"
	"strconv"
	"strings"
	"testing"

	"clavier/api"
	"clavier/wire"
)

// parts are n parameters of one part, pieces one parameter of n parts.
func parts(n, part int) [][]int {
	var l [][]int
	for range n {
		l = append(l, []int{part})
	}
	return l
}

func pieces(n, part int) [][]int { return [][]int{slices.Repeat([]int{part}, n)} }

// same tells whether two lists are the same, but that nil and empty are.
func same(a, b []api.Seq) bool {
	return slices.EqualFunc(a, b, func(a, b api.Seq) bool {
		return reflect.DeepEqual(plainParams(a), plainParams(b))
	})
}

func plainParams(s api.Seq) api.Seq {
	params := [][]int{}
	for _, p := range s.Params {
		params = append(params, append([]int{}, p...))
	}
	s.Params = params
	return s
}

// checkFed feeds b at once, and holds what is told, and whether the parser is idle then.
func checkFed(t *testing.T, b string, want []api.Seq, idle bool) {
	t.Helper()
	p := New()
	if told := p.Feed([]byte(b)); !same(told, want) {
		t.Errorf("Feed(%.80q) = %.200s, not %.200s", b, show(told), show(want))
	}
	if p.Idle() != idle {
		t.Errorf("Feed(%.80q): Idle is %v", b, !idle)
	}
}

func show(l []api.Seq) string {
	var texts []string
	for _, s := range l {
		texts = append(texts, strconv.Itoa(s.Kind)+" "+strconv.Quote(string(s.Private))+" "+showParams(s.Params)+" "+strconv.Quote(s.Inter)+" "+strconv.Quote(string(s.Final))+" "+strconv.Quote(s.Data))
	}
	return "[" + strings.Join(texts, ", ") + "]"
}

func showParams(params [][]int) string {
	var l []string
	for _, p := range params {
		var m []string
		for _, n := range p {
			m = append(m, strconv.Itoa(n))
		}
		l = append(l, strings.Join(m, ":"))
	}
	return "(" + strings.Join(l, ";") + ")"
}

// csi, dcs, osc and esc are lists of one sequence.
func csi(private byte, params [][]int, inter string, final byte) []api.Seq {
	return []api.Seq{{Kind: api.CSI, Private: private, Params: params, Inter: inter, Final: final}}
}

func dcs(private byte, params [][]int, inter string, final byte, data string) []api.Seq {
	return []api.Seq{{Kind: api.DCS, Private: private, Params: params, Inter: inter, Final: final, Data: data}}
}

func osc(data string) []api.Seq { return []api.Seq{{Kind: api.OSC, Data: data}} }

func esc(inter string, final byte) []api.Seq {
	return []api.Seq{{Kind: api.ESC, Inter: inter, Final: final}}
}

const (
	most = 4096
	// The bytes of a head, behind 16 parameters, and behind 8 parts.
	sixteen = "1;1;1;1;1;1;1;1;1;1;1;1;1;1;1;1"
	eight   = "1:1:1:1:1:1:1:1"
)

// long is n bytes of Data.
func long(n int) string { return strings.Repeat("ab ~;0\\P[", n/9+1)[:n] }

// A known is what bytes tell, and whether the parser is idle behind them.
type known struct {
	b    string
	want []api.Seq
	idle bool
}

func knowns() []known {
	l := escs()
	l = append(l, csis()...)
	l = append(l, params()...)
	l = append(l, dcss()...)
	l = append(l, oscs()...)
	l = append(l, unreads()...)
	return append(l, breaks()...)
}

func escs() []known {
	l := []known{
		{"", nil, true}, {"a", nil, true}, {"\\", nil, true}, {"[1m", nil, true}, {"\x00\x07\n\x7f\x80\x9b1m\xff", nil, true},
		{"\x1b", nil, false}, {"a\x1b", nil, false}, {"\x1b\x1b", nil, false}, {"\x1bc\x1b", esc("", 'c'), false},
		{"\x1bc", esc("", 'c'), true}, {"\x1b7\x1b8", append(esc("", '7'), esc("", '8')...), true}, {"x\x1bcy", esc("", 'c'), true}, {"\x1b=", esc("", '='), true},
		{"\x1b0", esc("", '0'), true}, {"\x1b~", esc("", '~'), true}, {"\x1b?", esc("", '?'), true}, {"\x1b@", esc("", '@'), true}, {"\x1b;", esc("", ';'), true}, {"\x1b:", esc("", ':'), true}, {"\x1b<", esc("", '<'), true},
		// What would be the other kinds' letters, behind Inter.
		{"\x1b([", esc("(", '['), true}, {"\x1b(P", esc("(", 'P'), true}, {"\x1b(]", esc("(", ']'), true}, {"\x1b(X", esc("(", 'X'), true}, {"\x1b(^", esc("(", '^'), true}, {"\x1b(_", esc("(", '_'), true}, {"\x1b(\\", esc("(", '\\'), true}, {"\x1b(O", esc("(", 'O'), true},
		// Neither of these may be, without Inter.
		{"\x1bO", nil, true}, {"\x1b\\", nil, true}, {"\x1bOP", nil, true}, {"\x1bO\x1bc", esc("", 'c'), true},
		// Inter: from 32 to 47, two at most.
		{"\x1b ", nil, false}, {"\x1b F", esc(" ", 'F'), true}, {"\x1b/", nil, false}, {"\x1b/F", esc("/", 'F'), true}, {"\x1b(B", esc("(", 'B'), true}, {"\x1b#8", esc("#", '8'), true},
		{"\x1b /0", esc(" /", '0'), true}, {"\x1b  ~", esc("  ", '~'), true}, {"\x1b$(C", esc("$(", 'C'), true}, {"\x1b/ [", esc("/ ", '['), true},
		{"\x1b(((", nil, false}, {"\x1b(((B", nil, true}, {"\x1b((((((B", nil, true}, {"\x1b((([1m", nil, true}, {"\x1b(((B\x1b(B", esc("(", 'B'), true}, {"\x1b(((\x1b(B", esc("(", 'B'), true}, {"\x1b(((\x18\x1b(B", esc("(", 'B'), true},
		// Bytes that do nothing.
		{"\x1b\x00\x07\n\x1f\x7fc", esc("", 'c'), true}, {"\x1b\x01(\x02$\x7fC", esc("($", 'C'), true}, {"\x1b\x1f[1m", csi(0, parts(1, 1), "", 'm'), true}, {"\x1b\x7f]a\x07", osc("a"), true}, {"\x1b\x7f", nil, false}, {"\x1b\x1f", nil, false},
		// From 128 on.
		{"\x1b\x80", nil, true}, {"\x1b\x80c", nil, true}, {"\x1b\xff[m", nil, true}, {"\x1b(\x80B", nil, true}, {"\x1b(\x80", nil, true}, {"\x1b\x9b1m", nil, true},
	}
	return l
}

func csis() []known {
	return []known{
		{"\x1b[", nil, false}, {"\x1b[m", csi(0, nil, "", 'm'), true}, {"\x1b[@", csi(0, nil, "", '@'), true}, {"\x1b[~", csi(0, nil, "", '~'), true}, {"\x1b[[", csi(0, nil, "", '['), true}, {"\x1b[\\", csi(0, nil, "", '\\'), true}, {"\x1b[P", csi(0, nil, "", 'P'), true}, {"\x1b[]", csi(0, nil, "", ']'), true}, {"\x1b[O", csi(0, nil, "", 'O'), true},
		{"\x1b[m1;2m", csi(0, nil, "", 'm'), true}, {"ab\x1b[2Jcd\x1b[Hef", append(csi(0, parts(1, 2), "", 'J'), csi(0, nil, "", 'H')...), true},
		{"\x1b[?1;2c", csi('?', [][]int{{1}, {2}}, "", 'c'), true}, {"\x1b[?2004$p", csi('?', parts(1, 2004), "$", 'p'), true}, {"\x1b[2 q", csi(0, parts(1, 2), " ", 'q'), true}, {"\x1b[!p", csi(0, nil, "!", 'p'), true}, {"\x1b[>4;2m", csi('>', [][]int{{4}, {2}}, "", 'm'), true},
		// Private: the first byte of the head, or it is spoilt.
		{"\x1b[<u", csi('<', nil, "", 'u'), true}, {"\x1b[=5u", csi('=', parts(1, 5), "", 'u'), true}, {"\x1b[>u", csi('>', nil, "", 'u'), true}, {"\x1b[?u", csi('?', nil, "", 'u'), true},
		{"\x1b[??h", nil, true}, {"\x1b[?>5h", nil, true}, {"\x1b[5?h", nil, true}, {"\x1b[5<h", nil, true}, {"\x1b[;?h", nil, true}, {"\x1b[:=h", nil, true}, {"\x1b[ ?h", nil, true}, {"\x1b[!<p", nil, true}, {"\x1b[?5?h", nil, true}, {"\x1b[?5?", nil, false}, {"\x1b[?$?p", nil, true}, {"\x1b[5?h\x1b[?5h", csi('?', parts(1, 5), "", 'h'), true},
		// Bytes that do nothing are not the first byte.
		{"\x1b[\n?5h", csi('?', parts(1, 5), "", 'h'), true}, {"\x1b[\x00\x1f\x7f>5h", csi('>', parts(1, 5), "", 'h'), true}, {"\x1b[?\x7f5\x012\x1f h\x00", csi('?', parts(1, 52), " ", 'h'), true}, {"\x1b[1\x072;\x7f3\x1fm", csi(0, [][]int{{12}, {3}}, "", 'm'), true},
		// Inter: from 32 to 47, two at most, and no parameters behind it.
		{"\x1b[ @", csi(0, nil, " ", '@'), true}, {"\x1b[/~", csi(0, nil, "/", '~'), true}, {"\x1b[ /~", csi(0, nil, " /", '~'), true}, {"\x1b[1/ ~", csi(0, parts(1, 1), "/ ", '~'), true}, {"\x1b[!!!p", nil, true}, {"\x1b[5!!!!p", nil, true}, {"\x1b[!!!", nil, false}, {"\x1b[$\x00$\x7f$p", nil, true},
		{"\x1b[ 0p", nil, true}, {"\x1b[ 9p", nil, true}, {"\x1b[ :p", nil, true}, {"\x1b[ ;p", nil, true}, {"\x1b[1$2p", nil, true}, {"\x1b[1$;$p", nil, true}, {"\x1b[!!0", nil, false}, {"\x1b[1$2p\x1b[1$p", csi(0, parts(1, 1), "$", 'p'), true},
		// From 128 on.
		{"\x1b[\x80", nil, true}, {"\x1b[1\x80m", nil, true}, {"\x1b[?\xffh", nil, true}, {"\x1b[1$\x9bp", nil, true}, {"\x1b[??\x80h", nil, true},
	}
}

func params() []known {
	figures := strings.Repeat("0", 1<<16)
	return []known{
		{"\x1b[;H", csi(0, parts(2, -1), "", 'H'), true}, {"\x1b[5;H", csi(0, [][]int{{5}, {-1}}, "", 'H'), true}, {"\x1b[;5H", csi(0, [][]int{{-1}, {5}}, "", 'H'), true}, {"\x1b[;;H", csi(0, parts(3, -1), "", 'H'), true},
		{"\x1b[:m", csi(0, [][]int{{-1, -1}}, "", 'm'), true}, {"\x1b[4:m", csi(0, [][]int{{4, -1}}, "", 'm'), true}, {"\x1b[:4m", csi(0, [][]int{{-1, 4}}, "", 'm'), true}, {"\x1b[4:3m", csi(0, [][]int{{4, 3}}, "", 'm'), true},
		{"\x1b[1;4:3;38:2::1:20:255;m", csi(0, [][]int{{1}, {4, 3}, {38, 2, -1, 1, 20, 255}, {-1}}, "", 'm'), true}, {"\x1b[:;:m", csi(0, [][]int{{-1, -1}, {-1, -1}}, "", 'm'), true},
		{"\x1b[0m", csi(0, parts(1, 0), "", 'm'), true}, {"\x1b[00m", csi(0, parts(1, 0), "", 'm'), true}, {"\x1b[007;0010m", csi(0, [][]int{{7}, {10}}, "", 'm'), true}, {"\x1b[" + figures + "12m", csi(0, parts(1, 12), "", 'm'), true}, {"\x1b[1234567890m", csi(0, parts(1, 65535), "", 'm'), true}, {"\x1b[12:34:56;78:90m", csi(0, [][]int{{12, 34, 56}, {78, 90}}, "", 'm'), true},
		// 65535, and more.
		{"\x1b[65534H", csi(0, parts(1, 65534), "", 'H'), true}, {"\x1b[65535H", csi(0, parts(1, 65535), "", 'H'), true}, {"\x1b[65536H", csi(0, parts(1, 65535), "", 'H'), true}, {"\x1b[1;70000H", csi(0, [][]int{{1}, {65535}}, "", 'H'), true}, {"\x1b[65529;65540;65545H", csi(0, [][]int{{65529}, {65535}, {65535}}, "", 'H'), true},
		{"\x1b[65536:65535:99999H", csi(0, pieces(3, 65535), "", 'H'), true}, {"\x1b[655350H", csi(0, parts(1, 65535), "", 'H'), true}, {"\x1b[1114111;1114112;4294967296;4294967297;18446744073709551616;18446744073709551617H", csi(0, parts(6, 65535), "", 'H'), true}, {"\x1b[131071;65537;100000;0065536H", csi(0, parts(4, 65535), "", 'H'), true}, {"\x1b[1" + figures + ";2H", csi(0, [][]int{{65535}, {2}}, "", 'H'), true},
		// 16 parameters, and 17; 8 parts, and 9.
		{"\x1b[" + sixteen + "m", csi(0, parts(16, 1), "", 'm'), true}, {"\x1b[" + sixteen + "23m", csi(0, append(parts(15, 1), []int{123}), "", 'm'), true}, {"\x1b[" + sixteen + ";m", nil, true}, {"\x1b[" + sixteen + ";1m", nil, true}, {"\x1b[" + sixteen + ";1;1;1:1m", nil, true}, {"\x1b[" + strings.Repeat(";", 15) + "m", csi(0, parts(16, -1), "", 'm'), true}, {"\x1b[" + strings.Repeat(";", 16) + "m", nil, true}, {"\x1b[?" + strings.Repeat(";", 1<<16) + "m", nil, true},
		{"\x1b[" + eight + "m", csi(0, pieces(8, 1), "", 'm'), true}, {"\x1b[" + eight + "23m", csi(0, [][]int{{1, 1, 1, 1, 1, 1, 1, 123}}, "", 'm'), true}, {"\x1b[" + eight + ":m", nil, true}, {"\x1b[" + eight + ":1m", nil, true}, {"\x1b[" + eight + ":1;1m", nil, true}, {"\x1b[" + strings.Repeat(":", 7) + "m", csi(0, pieces(8, -1), "", 'm'), true}, {"\x1b[" + strings.Repeat(":", 8) + "m", nil, true}, {"\x1b[1;" + strings.Repeat(":", 8) + ";1m", nil, true}, {"\x1b[" + strings.Repeat(":", 1<<16) + "m", nil, true},
		{"\x1b[" + strings.Repeat(eight+";", 15) + eight + "m", csi(0, slices.Repeat(pieces(8, 1), 16), "", 'm'), true}, {"\x1b[" + strings.Repeat(eight+";", 16) + eight + "m", nil, true}, {"\x1b[" + strings.Repeat(eight+";", 15) + eight + ":m", nil, true},
		{"\x1b[" + sixteen + ";1m\x1b[1m", csi(0, parts(1, 1), "", 'm'), true}, {"\x1b[" + eight + ":1\x1b[1m", csi(0, parts(1, 1), "", 'm'), true}, {"\x1bP" + sixteen + "q\x1b\\", dcs(0, parts(16, 1), "", 'q', ""), true}, {"\x1bP" + sixteen + ";q\x1b\\", nil, true}, {"\x1bP" + eight + "q\x1b\\", dcs(0, pieces(8, 1), "", 'q', ""), true}, {"\x1bP" + eight + ":qa\x1b\\", nil, true},
	}
}

func dcss() []known {
	return []known{
		{"\x1bP", nil, false}, {"\x1bPq", nil, false}, {"\x1bPq\x1b", nil, false}, {"\x1bPq\x1b\\", dcs(0, nil, "", 'q', ""), true}, {"\x1bP@\x1b\\", dcs(0, nil, "", '@', ""), true}, {"\x1bP~~\x1b\\", dcs(0, nil, "", '~', "~"), true}, {"\x1bP[1m\x1b\\", dcs(0, nil, "", '[', "1m"), true}, {"\x1bP\\\\\x1b\\", dcs(0, nil, "", '\\', "\\"), true},
		{"\x1bP$qm\x1b\\", dcs(0, nil, "$", 'q', "m"), true}, {"\x1bP+q544E;436F\x1b\\", dcs(0, nil, "+", 'q', "544E;436F"), true}, {"\x1bP1$r0;1m\x1b\\a", dcs(0, parts(1, 1), "$", 'r', "0;1m"), true}, {"\x1bP>|a b\x1b\\", dcs('>', nil, "", '|', "a b"), true}, {"\x1bP?1:70000;!/@ \x1b\\", dcs('?', [][]int{{1, 65535}, {-1}}, "!/", '@', " "), true}, {"\x1bP0q?\x1b\\", dcs(0, parts(1, 0), "", 'q', "?"), true},
		// The head is spoilt: so is what follows, and it ends where it would have.
		{"\x1bP1?qa", nil, false}, {"\x1bP1?qa\x1b\\", nil, true}, {"\x1bP$$$qa\x1b\\", nil, true}, {"\x1bP$1qa\x1b\\", nil, true}, {"\x1bP??qa\x1b[1m", csi(0, parts(1, 1), "", 'm'), true}, {"\x1bP1?qa\x1b\\\x1bPq\x1b\\", dcs(0, nil, "", 'q', ""), true},
		// The byte 7 does nothing; so do those below 32, and 127.
		{"\x1bPqa\x07", nil, false}, {"\x1bPqa\x07b\x1b\\", dcs(0, nil, "", 'q', "ab"), true}, {"\x1bPq\x00a\n\x1f\x7fb\x7f\x1b\\", dcs(0, nil, "", 'q', "ab"), true}, {"\x1bP\x07?\x7f1\x1fq\x1b\\", dcs('?', parts(1, 1), "", 'q', ""), true},
		// From 128 on: idle in the head, spoilt in data.
		{"\x1bP\x80qa\x1b\\", nil, true}, {"\x1bP1\xff\x1bc", esc("", 'c'), true}, {"\x1bPqa\x80", nil, false}, {"\x1bPq\xffa\x1b\\", nil, true}, {"\x1bPqa\x9c\x1b\\\x1bc", esc("", 'c'), true},
		// 4096 bytes of Data, and one more.
		{"\x1bPq" + long(most) + "\x1b\\", dcs(0, nil, "", 'q', long(most)), true}, {"\x1bPq\x07\x7f" + long(most) + "\x00\n\x1b\\", dcs(0, nil, "", 'q', long(most)), true}, {"\x1bPq" + long(most) + "a\x1b\\", nil, true}, {"\x1bPq" + long(most) + "a", nil, false}, {"\x1bPq" + long(3*most) + "\x1b\\\x1bPqb\x1b\\", dcs(0, nil, "", 'q', "b"), true},
	}
}

func oscs() []known {
	return []known{
		{"\x1b]", nil, false}, {"\x1b]\x1b", nil, false}, {"\x1b]\x1b\\", osc(""), true}, {"\x1b]\x07", osc(""), true}, {"\x1b]0;a title\x1b\\", osc("0;a title"), true}, {"\x1b]0;a title\x07", osc("0;a title"), true}, {"\x1b]a\x07b\x07", osc("a"), true}, {"\x1b]a\x07\x1b\\", osc("a"), true}, {"\x1b]a\x07\x1b]b\x1b\\c", append(osc("a"), osc("b")...), true},
		{"\x1b]\\\x1b\\", osc("\\"), true}, {"\x1b] ~\x07", osc(" ~"), true}, {"\x1b]]P[?<=>;:X^_\x07", osc("]P[?<=>;:X^_"), true}, {"\x1b]\x00a\x06\x08b\x1f\x7fc\x1b\\", osc("abc"), true},
		{"\x1b]\x80\x07", nil, true}, {"\x1b]a\xff", nil, false}, {"\x1b]a\xc3\xa9b\x1b\\", nil, true}, {"\x1b]a\x9cb\x07\x1b]c\x07", osc("c"), true},
		{"\x1b]" + long(most) + "\x07", osc(long(most)), true}, {"\x1b]" + long(most) + "\x1b\\", osc(long(most)), true}, {"\x1b]\x01" + long(most-1) + "\x7fz\x07", osc(long(most-1) + "z"), true}, {"\x1b]" + long(most+1) + "\x07", nil, true}, {"\x1b]" + long(most+1) + "\x1b\\", nil, true}, {"\x1b]" + long(most+1), nil, false}, {"\x1b]" + long(1<<18) + "\x07\x1b]b\x07", osc("b"), true},
		// Behind an escape byte a backslash ends it alone.
		{"\x1b]a\x1b\x07", nil, false}, {"\x1b]a\x1b\x07\\", nil, true}, {"\x1b]a\x1b\x07c", esc("", 'c'), true},
	}
}

func unreads() []known {
	var l []known
	for _, c := range []string{"X", "^", "_"} {
		b := "\x1b" + c
		l = append(l, []known{
			{b, nil, false}, {b + "\x1b\\", nil, true}, {b + "abc", nil, false}, {b + "abc\x1b", nil, false}, {b + "abc\x1b\\", nil, true}, {b + "abc\x1b\\\x1bc", esc("", 'c'), true}, {b + "\\\x1b\\", nil, true},
			{b + "a\x07", nil, false}, {b + "a\x07\x1b\\", nil, true}, {b + "\x80\xff", nil, false}, {b + "\x80\xff\x1b\\", nil, true}, {b + "\x00\x1f\x7f", nil, false}, {b + "]a\x07P[1m", nil, false},
			{b + "a\x18", nil, true}, {b + "a\x1a\x1bc", esc("", 'c'), true}, {b + "a\x1b[1m", csi(0, parts(1, 1), "", 'm'), true}, {b + "a\x1b]b\x07", osc("b"), true}, {b + "a\x1b\x1b\\", nil, true}, {b + "a\x1b\x80", nil, true}, {b + long(2*most) + "\x1b\\", nil, true}, {b + long(2*most), nil, false},
		}...)
	}
	return l
}

// starts are bytes behind which a parser is in each of its states, but idle.
func starts() []string {
	return []string{"\x1b", "\x1b(", "\x1b(((", "\x1b[", "\x1b[?", "\x1b[1;2", "\x1b[1$", "\x1b[1?", "\x1bP", "\x1bP?1", "\x1bP!", "\x1bP$$$", "\x1bPq", "\x1bPqa", "\x1bP1?qa", "\x1bPq\x80", "\x1b]", "\x1b]a", "\x1b]\xff", "\x1bX", "\x1b^a", "\x1b_\xffa"}
}

// breaks are the bytes 24, 26 and 27 in each state.
func breaks() []known {
	l := []known{{"\x18\x1a", nil, true}, {"\x1b[1\x18c", nil, true}, {"\x1b[1\x1ac", nil, true}, {"\x1b]a\x1b\\\x18", osc("a"), true}}
	for i, start := range starts() {
		text := i >= 12 // An escape byte may end it.
		for _, b := range []string{"\x18", "\x1a"} {
			l = append(l, known{start + b, nil, true}, known{start + b + "c", nil, true}, known{start + b + "\x1bc", esc("", 'c'), true}, known{start + b + "\x1b\\", nil, true})
			if text {
				l = append(l, known{start + "\x1b" + b, nil, true}, known{start + "\x1b" + b + "\\", nil, true}, known{start + "\x1b" + b + "\x1b[m", csi(0, nil, "", 'm'), true})
			}
		}
		l = append(l, known{start + "\x1b", nil, false}, known{start + "\x1bc", esc("", 'c'), true}, known{start + "\x1b[?1h", csi('?', parts(1, 1), "", 'h'), true}, known{start + "\x1b(B", esc("(", 'B'), true}, known{start + "\x1b]b\x07", osc("b"), true}, known{start + "\x1bP+qb\x1b\\", dcs(0, nil, "+", 'q', "b"), true}, known{start + "\x1bXb\x1b\\", nil, true})
		l = append(l, known{start + "\x1b\x1b", nil, false}, known{start + "\x1b\x1b\\", nil, true}, known{start + "\x1b\x1bc", esc("", 'c'), true}, known{start + "\x1b\x80", nil, true}, known{start + "\x1b\x01c", esc("", 'c'), true}, known{start + "\x1b\x01\\", nil, true}, known{start + "\x1b\x7f[m", csi(0, nil, "", 'm'), true})
	}
	return l
}

// P5.1: what is told of each kind, at the edges that the chapter names.
func TestKnownBytes(t *testing.T) {
	for _, k := range knowns() {
		checkFed(t, k.b, k.want, k.idle)
		checkFed(t, "a\x07\x80"+k.b, k.want, k.idle)
		checkFed(t, k.b+"\x18\x1bc", append(slices.Clone(k.want), esc("", 'c')...), true)
	}
}

// P5.1: one parser goes on with all of it, and nothing of what was before is left.
func TestOneParserForAll(t *testing.T) {
	p := New()
	for _, k := range knowns() {
		if told := p.Feed([]byte(k.b)); !same(told, k.want) || p.Idle() != k.idle {
			t.Errorf("Feed(%.80q) = %.200s, Idle %v", k.b, show(told), p.Idle())
		}
		if told := p.Feed([]byte{24}); len(told) != 0 || !p.Idle() {
			t.Errorf("the byte 24 behind %.80q: %.200s, Idle %v", k.b, show(told), p.Idle())
		}
	}
}

// P5.1: however many one call tells, all of them, in turn.
func TestManyAtOnce(t *testing.T) {
	var b []byte
	var want []api.Seq
	for i := range 20000 {
		s := []api.Seq{wire.Num('?', 'h', i), {Kind: api.ESC, Final: '7'}, {Kind: api.OSC, Data: strconv.Itoa(i)}}[i%3]
		more, _ := wire.Put(s)
		b = append(b, more...)
		want = append(want, s)
	}
	checkFed(t, string(b), want, true)
	checkFed(t, string(b)+"\x1b[", want, false)
}

// P5.1: a new parser is idle, no bytes change nothing, and parsers have nothing in common (R4).
func TestNewParsers(t *testing.T) {
	a, b := New(), New()
	if a == nil || b == nil || a == b || !a.Idle() || !b.Idle() {
		t.Fatalf("New: %v, %v", a, b)
	}
	if told := a.Feed([]byte("\x1b[1;")); len(told) != 0 || a.Idle() || !b.Idle() {
		t.Fatalf("told %s, Idle %v and %v", show(told), a.Idle(), b.Idle())
	}
	for _, none := range [][]byte{nil, {}, []byte("abc")[3:]} {
		if told := a.Feed(none); len(told) != 0 || a.Idle() {
			t.Fatalf("Feed of no bytes: %s, Idle %v", show(told), a.Idle())
		}
		if told := b.Feed(none); len(told) != 0 || !b.Idle() {
			t.Fatalf("Feed of no bytes: %s, Idle %v", show(told), b.Idle())
		}
	}
	if told := b.Feed([]byte("2m\x1b]x")); len(told) != 0 || b.Idle() {
		t.Fatalf("told %s, Idle %v", show(told), b.Idle())
	}
	if told := a.Feed([]byte("2m")); !same(told, csi(0, [][]int{{1}, {2}}, "", 'm')) || !a.Idle() || b.Idle() {
		t.Fatalf("told %s, Idle %v and %v", show(told), a.Idle(), b.Idle())
	}
	if told := b.Feed([]byte("y\x07")); !same(told, osc("xy")) {
		t.Fatalf("told %s", show(told))
	}
}

// P5.1: of a Parser that is nil: nothing, true.
func TestParserThatIsNil(t *testing.T) {
	var p *Parser
	for _, b := range []string{"", "a", "\x1b", "\x1bc", "\x1b[1m", "\x1b]a\x07", "\xff"} {
		if told := p.Feed([]byte(b)); len(told) != 0 || !p.Idle() {
			t.Errorf("Feed(%q) = %s, Idle %v", b, show(told), p.Idle())
		}
	}
	if told := p.Feed(nil); len(told) != 0 || !p.Idle() {
		t.Errorf("Feed(nil) = %s, Idle %v", show(told), p.Idle())
	}
}

// fedInParts is what is told of parts, one behind the other, and whether the parser is idle then.
func fedInParts(parts ...[]byte) ([]api.Seq, bool) {
	p := New()
	var told []api.Seq
	for _, part := range parts {
		told = append(told, p.Feed(part)...)
	}
	return told, p.Idle()
}

func checkInParts(t *testing.T, k known, parts ...[]byte) {
	t.Helper()
	if told, idle := fedInParts(parts...); !same(told, k.want) || idle != k.idle {
		t.Fatalf("fed in %d parts, %.80q: %.200s, Idle %v, not %.200s, %v", len(parts), parts, show(told), idle, show(k.want), k.idle)
	}
}

// P5.2: fed in two and three parts of every cut, and byte by byte.
func TestEveryCut(t *testing.T) {
	for _, k := range knowns() {
		b := []byte(k.b)
		checkInParts(t, k, slices.Collect(slices.Chunk(b, 1))...)
		checkInParts(t, k, slices.Collect(slices.Chunk(b, 7))...)
		if len(b) > 300 {
			for _, cut := range []int{0, 1, 2, 3, 4, len(b) / 2, len(b) - 3, len(b) - 2, len(b) - 1, len(b)} {
				checkInParts(t, k, b[:cut], b[cut:])
			}
			continue
		}
		for cut := range len(b) + 1 {
			checkInParts(t, k, b[:cut], b[cut:])
			if len(b) > 40 {
				continue
			}
			for second := cut; second <= len(b); second++ {
				checkInParts(t, k, b[:cut], b[cut:second], b[second:])
			}
		}
	}
}

// P5.2: all known bytes behind one another, each ended by the byte 24, cut at random.
func TestLongRowsInRandomCuts(t *testing.T) {
	r := rand.New(rand.NewSource(5))
	all := knowns()
	for range 300 {
		var b []byte
		want := known{idle: true}
		for range 20 {
			k := all[r.Intn(len(all))]
			b = append(append(b, k.b...), 24)
			want.want = append(want.want, k.want...)
		}
		checkInParts(t, want, b)
		checkInParts(t, want, randomCuts(r, b)...)
	}
}

func randomCuts(r *rand.Rand, b []byte) [][]byte {
	most := 1 + r.Intn(40)
	var l [][]byte
	for len(b) > 0 {
		n := min(r.Intn(most+1), len(b))
		l = append(l, b[:n])
		b = b[n:]
	}
	return l
}

// randomSeq makes a sequence that may be, of any kind but SS3, whose parts are so many at most.
func randomSeq(r *rand.Rand, greatest int) api.Seq {
	for {
		s := api.Seq{Kind: []int{api.CSI, api.DCS, api.OSC, api.ESC}[r.Intn(4)]}
		if s.Kind == api.CSI || s.Kind == api.DCS {
			if r.Intn(2) == 0 {
				s.Private = "<=>?"[r.Intn(4)]
			}
			s.Params = randomParams(r, greatest)
		}
		if s.Kind != api.OSC {
			s.Inter = randomText(r, ' ', '/', r.Intn(3))
			s.Final = byte('0' + r.Intn('~'-'0'+1))
		}
		if s.Kind == api.DCS || s.Kind == api.OSC {
			s.Data = randomText(r, ' ', '~', []int{0, 1, r.Intn(20), r.Intn(most + 1), most}[r.Intn(5)])
		}
		if wire.May(s) == api.OK {
			return s
		}
	}
}

func randomParams(r *rand.Rand, greatest int) [][]int {
	var params [][]int
	for range []int{0, 1, 2, r.Intn(17), 16}[r.Intn(5)] {
		var p []int
		for range []int{1, 1, 1 + r.Intn(8), 8}[r.Intn(4)] {
			p = append(p, []int{-1, 0, r.Intn(10), r.Intn(greatest + 1), greatest - 1, greatest}[r.Intn(6)])
		}
		params = append(params, p)
	}
	return params
}

func randomText(r *rand.Rand, first, last byte, n int) string {
	b := make([]byte, n)
	for i := range b {
		b[i] = first + byte(r.Intn(int(last-first)+1))
	}
	return string(b)
}

// P5.2: what wire.Put makes is told as it is, alone, and in rows of any cut.
func TestWhatPutMakes(t *testing.T) {
	r := rand.New(rand.NewSource(52))
	for range 400 {
		var row []byte
		var want []api.Seq
		for range 12 {
			s := randomSeq(r, 65535)
			b, err := wire.Put(s)
			if err != api.OK {
				t.Fatalf("Put(%+v): %v", s, err)
			}
			checkFed(t, string(b), []api.Seq{s}, true)
			row = append(row, b...)
			want = append(want, s)
			if between := randomText(r, '0', '~', r.Intn(3)); r.Intn(3) == 0 {
				row = append(row, between...)
			}
		}
		k := known{want: want, idle: true}
		checkInParts(t, k, row)
		checkInParts(t, k, randomCuts(r, row)...)
	}
}

// P5.1: cut off, it isn't told, and the parser isn't idle.
func TestWhatPutMakesCutOff(t *testing.T) {
	r := rand.New(rand.NewSource(521))
	for range 200 {
		b, _ := wire.Put(randomSeq(r, 65535))
		for range 20 {
			cut := r.Intn(len(b))
			checkFed(t, string(b[:cut]), nil, cut == 0)
		}
	}
}

// P5.1: parts above 65535 are told as 65535.
func TestGreaterParts(t *testing.T) {
	r := rand.New(rand.NewSource(53))
	for range 2000 {
		s := randomSeq(r, api.MaxPart)
		b, _ := wire.Put(s)
		for _, p := range s.Params {
			for i := range p {
				p[i] = min(p[i], 65535)
			}
		}
		checkFed(t, string(b), []api.Seq{s}, true)
	}
	for n := 65000; n < 66100; n++ {
		want := min(n, 65535)
		checkFed(t, "\x1b["+strconv.Itoa(n)+";0"+strconv.Itoa(n)+":"+strconv.Itoa(n)+"A", csi(0, [][]int{{want}, {want, want}}, "", 'A'), true)
	}
}

// P5.1: each number is read as it stands.
func TestEachNumber(t *testing.T) {
	p := New()
	for n := range 70000 {
		told := p.Feed([]byte("\x1b[" + strconv.Itoa(n) + "d"))
		if len(told) != 1 || len(told[0].Params) != 1 || len(told[0].Params[0]) != 1 || told[0].Params[0][0] != min(n, 65535) {
			t.Fatalf("%d: %s", n, show(told))
		}
	}
}

// P5.1 and P5.2: SS3 isn't what the host sends: nothing is told of what wire.Put makes of one.
func TestSS3IsNotTold(t *testing.T) {
	for final := byte(64); final <= 126; final++ {
		b, err := wire.Put(api.Seq{Kind: api.SS3, Final: final})
		if err != api.OK {
			t.Fatalf("Put of SS3 %c: %v", final, err)
		}
		checkFed(t, string(b), nil, true)
	}
}

// R3: what is fed stays as it is, and may change afterwards, amid a sequence too.
func TestFedBytesAreNotShared(t *testing.T) {
	for _, k := range knowns() {
		whole := []byte(k.b)
		for _, size := range []int{1, 2, 3, 5, len(whole) + 1} {
			p := New()
			var told []api.Seq
			part := make([]byte, size)
			for at := 0; at < len(whole); at += size {
				n := copy(part, whole[at:])
				told = append(told, p.Feed(part[:n])...)
				if !bytes.Equal(part[:n], whole[at:at+n]) {
					t.Fatalf("Feed(%.80q) changed it to %.80q", whole[at:at+n], part[:n])
				}
				for i := range part {
					part[i] = 'z'
				}
			}
			if !same(told, k.want) || p.Idle() != k.idle {
				t.Fatalf("%.80q in parts of %d: %.200s, Idle %v", k.b, size, show(told), p.Idle())
			}
		}
	}
}

// spoil changes all that can be changed of a list that was told, and what stands behind it.
func spoil(l []api.Seq) {
	for i := range l {
		for _, p := range l[i].Params {
			for k := range p {
				p[k] = 7777
			}
			_ = append(p, 8888, 8888, 8888)
			for k := range p[:cap(p)] {
				p[:cap(p)][k] = 9999
			}
		}
		_ = append(l[i].Params, []int{8888}, []int{8888})
		l[i] = api.Seq{Kind: 77}
	}
	_ = append(l, api.Seq{Kind: 78})
}

// R3: what is told is the caller's own, of the same answer and of others.
func TestToldIsNotShared(t *testing.T) {
	const b = "\x1b[1;2:3;4m\x1bP5:6;7$qab\x1b\\\x1b]cd\x07\x1b(B\x1b[8;9H\x1b[10"
	want := []api.Seq{
		csi(0, [][]int{{1}, {2, 3}, {4}}, "", 'm')[0], dcs(0, [][]int{{5, 6}, {7}}, "$", 'q', "ab")[0], osc("cd")[0], esc("(", 'B')[0], csi(0, [][]int{{8}, {9}}, "", 'H')[0],
	}
	p := New()
	first := p.Feed([]byte(b))
	if !same(first, want) {
		t.Fatalf("told %s", show(first))
	}
	for i := range first {
		spoil(first[i : i+1 : i+1])
		if !same(first[i+1:], want[i+1:]) {
			t.Fatalf("%s changed with the one ahead", show(first[i+1:]))
		}
	}
	spoil(first)
	second := p.Feed([]byte(";11m" + b))
	if !same(second, append(csi(0, [][]int{{10}, {11}}, "", 'm'), want...)) {
		t.Fatalf("told %s", show(second))
	}
	third := p.Feed([]byte(";12m" + b))
	spoil(second)
	if !same(third, append(csi(0, [][]int{{10}, {12}}, "", 'm'), want...)) {
		t.Fatalf("told %s", show(third))
	}
}

// R3: no parameter of one that was told shares its parts with another.
func TestPartsAreNotShared(t *testing.T) {
	p := New()
	told := p.Feed([]byte("\x1b[1:2:3;4;5:6;7:8:9:10:11;12m"))
	want := [][]int{{1, 2, 3}, {4}, {5, 6}, {7, 8, 9, 10, 11}, {12}}
	if len(told) != 1 || !reflect.DeepEqual(told[0].Params, want) {
		t.Fatalf("told %s", show(told))
	}
	for i, parts := range told[0].Params {
		for j := range parts[:cap(parts)] {
			parts[:cap(parts)][j] = -5
		}
		if !reflect.DeepEqual(told[0].Params[i+1:], want[i+1:]) {
			t.Fatalf("%v changed with parameter %d", told[0].Params, i)
		}
	}
}
