package host

import (
	"math/rand"
	"regexp"
	"slices"
	"strings"
	"testing"

	"clavier/api"
	"clavier/wire"
)

// The bytes that do nothing, and those with which data and strings go on.
const (
	none = `\x00-\x17\x19\x1c-\x1f\x7f`
	on   = `[^\x18\x1a\x1b]*`
)

var (
	wholeEsc = regexp.MustCompile(`^\x1b([ -/` + none + `]*)([0-~])`)
	wholeCSI = regexp.MustCompile(`^\x1b[` + none + `]*\[([ -?` + none + `]*)([@-~])`)
	wholeDCS = regexp.MustCompile(`^\x1b[` + none + `]*P([ -?` + none + `]*)([@-~])(` + on + `)\x1b\\`)
	wholeOSC = regexp.MustCompile(`^\x1b[` + none + `]*\]([^\x07\x18\x1a\x1b]*)(?:\x07|\x1b\\)`)
	wholeAny = regexp.MustCompile(`^\x1b[` + none + `]*[X^_]` + on + `\x1b\\`)
	begun    = longest(`^\x1b(?:[ -/` + none + `]*|[` + none + `]*(?:[P\[][ -?` + none + `]*|P[ -?` + none + `]*[@-~]` + on + `|[\]X^_]` + on + `))`)
	nones    = regexp.MustCompile(`[` + none + `]`)
	body     = regexp.MustCompile(`^([<-?]?)([0-;]*)([ -/]{0,2})$`)
)

func longest(text string) *regexp.Regexp {
	r := regexp.MustCompile(text)
	r.Longest()
	return r
}

// characters are bytes with a character for each, since expressions don't know bytes above 127.
func characters(b []byte) string {
	l := make([]rune, len(b))
	for i, c := range b {
		l[i] = rune(c)
	}
	return string(l)
}

// byExpressions is what b tells, and whether the parser is idle then, by expressions over all of it.
func byExpressions(b []byte) ([]api.Seq, bool) {
	rest := characters(b)
	var told []api.Seq
	for {
		at := strings.IndexByte(rest, 27)
		if at < 0 {
			return told, true
		}
		rest = rest[at:]
		s, ok, length := whole(rest)
		if ok && wire.May(s) == api.OK {
			told = append(told, s)
		}
		if length == 0 {
			// What stops it is an escape byte, or one behind which it is idle.
			length = len(begun.FindString(rest))
			if length == len(rest) {
				return told, false
			}
		}
		rest = rest[length:]
	}
}

// whole is what is whole at the beginning of text, whether it may be told, and how long it is; 0, if nothing is whole.
func whole(text string) (api.Seq, bool, int) {
	if m := wholeEsc.FindStringSubmatch(text); m != nil {
		inter := nones.ReplaceAllString(m[1], "")
		if inter != "" || !strings.Contains("[P]X^_", m[2]) {
			return api.Seq{Kind: api.ESC, Inter: inter, Final: m[2][0]}, true, len(m[0])
		}
	}
	if m := wholeCSI.FindStringSubmatch(text); m != nil {
		s, ok := headOf(m[1])
		s.Kind, s.Final = api.CSI, m[2][0]
		return s, ok, len(m[0])
	}
	if m := wholeDCS.FindStringSubmatch(text); m != nil {
		s, ok := headOf(m[1])
		s.Kind, s.Final, s.Data = api.DCS, m[2][0], nones.ReplaceAllString(m[3], "")
		return s, ok && plainData(s.Data), len(m[0])
	}
	if m := wholeOSC.FindStringSubmatch(text); m != nil {
		s := api.Seq{Kind: api.OSC, Data: nones.ReplaceAllString(m[1], "")}
		return s, plainData(s.Data), len(m[0])
	}
	return api.Seq{}, false, len(wholeAny.FindString(text))
}

func plainData(data string) bool {
	for _, c := range data {
		if c < ' ' || c > '~' {
			return false
		}
	}
	return len(data) <= 4096
}

func headOf(text string) (api.Seq, bool) {
	m := body.FindStringSubmatch(nones.ReplaceAllString(text, ""))
	if m == nil {
		return api.Seq{}, false
	}
	s := api.Seq{Inter: m[3]}
	if m[1] != "" {
		s.Private = m[1][0]
	}
	if m[2] == "" {
		return s, true
	}
	for p := range strings.SplitSeq(m[2], ";") {
		var l []int
		for part := range strings.SplitSeq(p, ":") {
			l = append(l, partOf(part))
		}
		s.Params = append(s.Params, l)
	}
	return s, true
}

func partOf(text string) int {
	if text == "" {
		return -1
	}
	n := 0
	for _, c := range strings.TrimLeft(text, "0") {
		n = n*10 + int(c-'0')
		if n > 65535 {
			return 65535
		}
	}
	return n
}

func checkByExpressions(t *testing.T, b []byte) {
	t.Helper()
	want, idle := byExpressions(b)
	p := New()
	if told := p.Feed(b); !same(told, want) || p.Idle() != idle {
		t.Fatalf("Feed(%.200q) = %s, Idle %v, not %s, %v", b, show(told), p.Idle(), show(want), idle)
	}
}

// The expressions tell what is written out.
func TestExpressionsTellWhatIsKnown(t *testing.T) {
	for _, k := range knowns() {
		if told, idle := byExpressions([]byte(k.b)); !same(told, k.want) || idle != k.idle {
			t.Errorf("%.80q: %.200s, %v, not %.200s, %v", k.b, show(told), idle, show(k.want), k.idle)
		}
	}
}

// ends are bytes that show, by what is told, how a parser was ahead of them.
var ends = []string{"", "c", "m", "\\", "\x07", "\x1b\\", "\x1bc", "m\x1b\\", "0m", ";5q\x1b\\", "$p", "?5h", "]a\x07", "[1m", "Pqa\x1b\\", "\x07c", "((B", "a\x07b\x1b\\"}

// P5.1: each byte, and each byte behind an escape byte, in each state.
func TestEachByteInEachState(t *testing.T) {
	for _, start := range append(starts(), "", "a", "\x1b\x01", "\x1b((", "\x1b[\x01", "\x1b[1$$", "\x1b[$", "\x1b[:", "\x1bP1", "\x1bP!!") {
		for c := range 256 {
			for _, end := range ends {
				checkByExpressions(t, []byte(start+string([]byte{byte(c)})+end))
				checkByExpressions(t, []byte(start+"\x1b"+string([]byte{byte(c)})+end))
				checkByExpressions(t, []byte(start+string([]byte{byte(c), byte(c)})+end))
			}
		}
	}
}

// P5.1: each short row of the bytes that matter, in each state.
func TestEachShortRow(t *testing.T) {
	const matter = "\x07\x18\x1b\x1f /09:;<?@P[\\]X~\x7f\x80"
	for _, start := range append(starts(), "") {
		for _, a := range []byte(matter) {
			for _, b := range []byte(matter) {
				for _, end := range []string{"", "m", "\x1b\\", "\x07", "5$q~\x1b\\", "?c"} {
					checkByExpressions(t, append([]byte(start), append([]byte{a, b}, end...)...))
				}
			}
		}
	}
}

// P5.1 and P5.2: long rows of bytes, at once and in parts.
func TestLongRows(t *testing.T) {
	r := rand.New(rand.NewSource(55))
	pieces := []string{"\x1b", "\x1b[", "\x1b]", "\x1bP", "\x1bX", "\x1b\\", "\x07", "\x18", "\x1a", "\x80", "\x7f", "\x00", "?", ">", "1", "0", "65536", ";", ":", ";;;;;;", ":::", "$", " ", "m", "q", "h", "a", "~", "@", "\\", "[", "P", long(100), long(2000)}
	for range 20000 {
		var b []byte
		for range 1 + r.Intn(30) {
			if r.Intn(20) == 0 {
				b = append(b, byte(r.Intn(256)))
			}
			b = append(b, pieces[r.Intn(len(pieces)-2*r.Intn(2))]...)
		}
		checkByExpressions(t, b)
		want, idle := byExpressions(b)
		checkInParts(t, known{want: want, idle: idle}, randomCuts(r, b)...)
	}
}

// P1: whatever bytes come, what is told may be, and its parts are 65535 at most.
func TestAnyBytes(t *testing.T) {
	r := rand.New(rand.NewSource(1))
	p := New()
	for range 3000 {
		b := make([]byte, r.Intn(2000))
		for i := range b {
			b[i] = byte(r.Intn(256))
			if r.Intn(3) == 0 {
				b[i] = "\x1b[]P\\;:$?m"[r.Intn(10)]
			}
		}
		for _, s := range p.Feed(b) {
			if wire.May(s) != api.OK || s.Kind == api.SS3 || len(s.Params) > 0 && slices.Max(slices.Concat(s.Params...)) > 65535 {
				t.Fatalf("told %s", show([]api.Seq{s}))
			}
		}
	}
}

// P1 and R4: what is kept of a head, and of data, however long, is bounded.
func TestLongHeadsAndData(t *testing.T) {
	for _, b := range []string{"\x1b[", "\x1bP?1", "\x1bPq", "\x1b]", "\x1bX", "\x1b(", "\x1b[$"} {
		for _, more := range []string{"1", ";", ":", "1;", "1:", "$", "?", "\x00", "~", "\x80"} {
			p := New()
			p.Feed([]byte(b))
			p.Feed([]byte(strings.Repeat(more, 1<<17)))
			kept := len(p.data) + len(p.seq.Inter)
			for _, parts := range p.seq.Params {
				kept += 1 + len(parts)
			}
			if kept > 4096+2+16*9 {
				t.Errorf("behind %q, and many of %q, %d are kept", b, more, kept)
			}
		}
	}
}
