package utf

import (
	"bytes"
	"math"
	"slices"
	"testing"
	"unicode/utf8"
)

// edges are code points on both sides of each number that the chapter names, with their bytes written out.
var edges = []struct {
	r int
	b string
}{
	{0, "\x00"}, {1, "\x01"}, {9, "\x09"}, {27, "\x1b"}, {65, "A"}, {126, "\x7e"}, {127, "\x7f"},
	{128, "\xc2\x80"}, {129, "\xc2\x81"}, {191, "\xc2\xbf"}, {192, "\xc3\x80"}, {233, "\xc3\xa9"}, {255, "\xc3\xbf"}, {256, "\xc4\x80"}, {2046, "\xdf\xbe"}, {2047, "\xdf\xbf"},
	{2048, "\xe0\xa0\x80"}, {2049, "\xe0\xa0\x81"}, {4095, "\xe0\xbf\xbf"}, {4096, "\xe1\x80\x80"}, {8364, "\xe2\x82\xac"}, {55294, "\xed\x9f\xbe"}, {55295, "\xed\x9f\xbf"},
	{57344, "\xee\x80\x80"}, {57345, "\xee\x80\x81"}, {65279, "\xef\xbb\xbf"}, {65533, "\xef\xbf\xbd"}, {65534, "\xef\xbf\xbe"}, {65535, "\xef\xbf\xbf"},
	{65536, "\xf0\x90\x80\x80"}, {65537, "\xf0\x90\x80\x81"}, {128512, "\xf0\x9f\x98\x80"}, {262143, "\xf0\xbf\xbf\xbf"}, {262144, "\xf1\x80\x80\x80"}, {1048575, "\xf3\xbf\xbf\xbf"}, {1048576, "\xf4\x80\x80\x80"},
	{1114110, "\xf4\x8f\xbf\xbe"}, {1114111, "\xf4\x8f\xbf\xbf"},
}

// noPoints are numbers that are no code points; some would be one, if only their last bits were held against the bounds.
var noPoints = []int{
	-1, -2, -65, -128, -191, -1114111, math.MinInt32, math.MinInt32 + 65, math.MinInt, math.MinInt + 65, -(1 << 32), -(1 << 32) + 65, -(1 << 21),
	55296, 55297, 56319, 56320, 57342, 57343,
	1114112, 1114113, 1114176, 2097151, 2097152, 2097217, 67108864, math.MaxInt32, 1 << 31, 1<<32 - 1, 1 << 32, 1<<32 + 65, 1<<32 + 233, math.MaxInt - 1, math.MaxInt,
}

// noBegins are bytes with which no code point begins.
var noBegins = []string{
	"",
	// A following byte alone, and bytes with which nothing begins.
	"\x80", "\xbf", "\x80A", "\x80\x80", "\xa9\xc3", "\xbf\xbf\xbf\xbf", "\xc0", "\xc1", "\xf5", "\xf8", "\xfc", "\xfe", "\xff", "\xffA", "\xff\xff\xff\xff",
	"\xf5\x80\x80\x80", "\xf7\xbf\xbf\xbf", "\xf8\x80\x80\x80", "\xf8\x88\x80\x80\x80", "\xfb\xbf\xbf\xbf\xbf", "\xfc\x84\x80\x80\x80\x80", "\xfd\xbf\xbf\xbf\xbf\xbf", "\xfe\x80\x80\x80", "\xff\x80\x80\x80\x80\x80\x80",
	// Cut off.
	"\xc2", "\xc3", "\xdf", "\xe0", "\xe0\xa0", "\xe2\x82", "\xed\x9f", "\xef\xbf", "\xf0", "\xf0\x90", "\xf0\x90\x80", "\xf0\x9f\x98", "\xf4\x8f\xbf",
	// What stands there doesn't follow.
	"\xc3A", "\xc3\x7f", "\xc3\xc0", "\xc3\xc3\xa9", "\xc3\x00", "\xc3\xff", "\xdf\x3f", "\xe2\x82A", "\xe2\x82\x7f", "\xe2\x82\xc0", "\xe2\x82\xe2\x82\xac", "\xe2A\xac", "\xe2\x7f\xac", "\xe2\xc2\xac", "\xe2AA",
	"\xf0\x9f\x98A", "\xf0\x9f\x98\x7f", "\xf0\x9f\x98\xc0", "\xf0\x9fA\x80", "\xf0\x9f\xd8\x80", "\xf0A\x98\x80", "\xf0\xdf\x98\x80", "\xf0\x9f\x98\xf0\x9f\x98\x80",
	// Longer than the code point asks.
	"\xc0\x80", "\xc0\x81", "\xc0\xaf", "\xc1\x81", "\xc1\xbf", "\xe0\x80\x80", "\xe0\x81\xbf", "\xe0\x82\x80", "\xe0\x83\xa9", "\xe0\x9f\xbf",
	"\xf0\x80\x80\x80", "\xf0\x80\x81\xbf", "\xf0\x80\x9f\xbf", "\xf0\x80\xa0\x80", "\xf0\x82\x82\xac", "\xf0\x8f\xbf\xbf", "\xf8\x80\x80\x80\x80", "\xf8\x87\xbf\xbf\xbf", "\xfc\x80\x80\x80\x80\x80",
	// Numbers that are no code points.
	"\xed\xa0\x80", "\xed\xa0\x81", "\xed\xaf\xbf", "\xed\xb0\x80", "\xed\xbf\xbf", "\xed\xa0\xbd\xed\xb8\x80", "\xf4\x90\x80\x80", "\xf4\x90\x80\x81", "\xf4\xbf\xbf\xbf",
}

// P2.1: the bytes that the chapter tells, of ordinary code points and of those at its bounds.
func TestPutAndTakeAtTheBounds(t *testing.T) {
	for _, e := range edges {
		if b := Put(e.r); string(b) != e.b {
			t.Errorf("Put(%d) = %x, not %x", e.r, b, e.b)
		}
		for _, behind := range []string{"", "A", "\x00", "\x80", "\xbf", "\xc3", "\xff", e.b} {
			b := []byte(e.b + behind)
			if r, count := Take(b); r != e.r || count != len(e.b) {
				t.Errorf("Take(%x) = %d, %d, not %d, %d", b, r, count, e.r, len(e.b))
			}
			if string(b) != e.b+behind {
				t.Errorf("Take of %x changed it to %x", e.b+behind, b)
			}
		}
	}
}

// P2.1: nothing of a number that is no code point.
func TestPutRefuses(t *testing.T) {
	for _, r := range noPoints {
		if b := Put(r); len(b) != 0 {
			t.Errorf("Put(%d) = %x", r, b)
		}
	}
}

// P2.1: 0, 0 of bytes with which no code point begins.
func TestTakeRefuses(t *testing.T) {
	for _, b := range noBegins {
		if r, count := Take([]byte(b)); r != 0 || count != 0 {
			t.Errorf("Take(%x) = %d, %d", b, r, count)
		}
	}
	if r, count := Take(nil); r != 0 || count != 0 {
		t.Errorf("Take(nil) = %d, %d", r, count)
	}
	for _, e := range edges {
		for cut := range len(e.b) {
			if r, count := Take([]byte(e.b[:cut])); r != 0 || count != 0 {
				t.Errorf("Take(%x), cut off = %d, %d", e.b[:cut], r, count)
			}
		}
	}
}

// P2.1: what stands behind the bytes that are handed in isn't asked, though the slice may have room for it.
func TestTakeReadsNotBeyond(t *testing.T) {
	whole := []byte("\xe2\x82\xac")
	for cut := range len(whole) {
		if r, count := Take(whole[:cut]); r != 0 || count != 0 {
			t.Errorf("Take of the first %d = %d, %d", cut, r, count)
		}
		if Valid(whole[:cut]) != (cut == 0) {
			t.Errorf("Valid of the first %d: %v", cut, cut != 0)
		}
	}
}

// P2.1 and P2.3: every number of 21 bits and some below 0, against the library.
func TestEachNumber(t *testing.T) {
	seen := make(map[string]bool, 1114112)
	for r := -2000; r < 1<<21; r++ {
		b := Put(r)
		if r < 0 || !utf8.ValidRune(rune(r)) {
			if len(b) != 0 {
				t.Fatalf("Put(%d) = %x", r, b)
			}
			continue
		}
		if string(b) != string(rune(r)) {
			t.Fatalf("Put(%d) = %x, not %x", r, b, string(rune(r)))
		}
		if seen[string(b)] {
			t.Fatalf("Put(%d) = %x, as another one", r, b)
		}
		seen[string(b)] = true
		if back, count := Take(b); back != r || count != len(b) {
			t.Fatalf("%d is %x, and back: %d, %d", r, b, back, count)
		}
	}
	if len(seen) != 1114112-2048 {
		t.Errorf("%d code points", len(seen))
	}
}

// P2.1 and P2.2: all of one, two and three bytes, and four of each that can matter, against the library.
func TestEachBegin(t *testing.T) {
	checkBegin(t, []byte{})
	for a := range 256 {
		checkBegin(t, []byte{byte(a)})
		for b := range 256 {
			checkBegin(t, []byte{byte(a), byte(b)})
			for c := range 256 {
				checkBegin(t, []byte{byte(a), byte(b), byte(c)})
			}
		}
	}
	last := []byte{0, 'A', 127, 128, 129, 144, 160, 190, 191, 192, 194, 224, 240, 244, 255}
	for a := 0xE0; a < 256; a++ {
		for b := range 256 {
			for _, c := range last {
				for _, d := range last {
					checkBegin(t, []byte{byte(a), byte(b), c, d})
				}
			}
		}
	}
}

func checkBegin(t *testing.T, b []byte) {
	want, size := utf8.DecodeRune(b)
	if want == utf8.RuneError && size < 2 {
		want, size = 0, 0
	}
	if r, count := Take(b); r != int(want) || count != size {
		t.Fatalf("Take(%x) = %d, %d, not %d, %d", b, r, count, want, size)
	}
	if ok := Valid(b); ok != utf8.Valid(b) {
		t.Fatalf("Valid(%x) = %v", b, ok)
	}
}

// P2.2: code points one behind the other, also none.
func TestListsAndTheirBytes(t *testing.T) {
	for _, c := range []struct {
		l []int
		b string
	}{
		{nil, ""}, {[]int{}, ""}, {[]int{0}, "\x00"}, {[]int{0, 0, 0}, "\x00\x00\x00"}, {[]int{233}, "\xc3\xa9"}, {[]int{8364}, "\xe2\x82\xac"},
		{[]int{97, 233, 8364, 128512}, "a\xc3\xa9\xe2\x82\xac\xf0\x9f\x98\x80"}, {[]int{128512, 8364, 233, 97}, "\xf0\x9f\x98\x80\xe2\x82\xac\xc3\xa9a"},
		{[]int{127, 128, 2047, 2048, 65535, 65536, 1114111}, "\x7f\xc2\x80\xdf\xbf\xe0\xa0\x80\xef\xbf\xbf\xf0\x90\x80\x80\xf4\x8f\xbf\xbf"},
		{[]int{55295, 57344}, "\xed\x9f\xbf\xee\x80\x80"}, {[]int{27, 91, 65}, "\x1b[A"}, {[]int{65533, 65533}, "\xef\xbf\xbd\xef\xbf\xbd"},
	} {
		if b, ok := Text(c.l); !ok || string(b) != c.b {
			t.Errorf("Text(%v) = %x, %v, not %x", c.l, b, ok, c.b)
		}
		if l, ok := All([]byte(c.b)); !ok || !slices.Equal(l, c.l) {
			t.Errorf("All(%x) = %v, %v, not %v", c.b, l, ok, c.l)
		}
		if !Valid([]byte(c.b)) {
			t.Errorf("Valid(%x) = false", c.b)
		}
	}
	if !Valid(nil) {
		t.Error("Valid(nil) = false")
	}
	if l, ok := All(nil); !ok || len(l) != 0 {
		t.Errorf("All(nil) = %v, %v", l, ok)
	}
}

// P2.2: nothing, false, of bytes that aren't valid: alone, ahead of valid ones, behind them and between.
func TestBytesThatAreNotValid(t *testing.T) {
	around := []string{"", "A", "\x00", "\xc3\xa9", "\xe2\x82\xac", "\xf0\x9f\x98\x80", "A\xc3\xa9\xe2\x82\xac\xf0\x9f\x98\x80z"}
	for _, bad := range noBegins {
		for _, ahead := range around {
			for _, behind := range around {
				b := []byte(ahead + bad + behind)
				want := bad == ""
				if ok := Valid(b); ok != want {
					t.Errorf("Valid(%x) = %v", b, ok)
				}
				l, ok := All(b)
				if ok != want || !want && len(l) != 0 {
					t.Errorf("All(%x) = %v, %v", b, l, ok)
				}
				if string(b) != ahead+bad+behind {
					t.Errorf("%x changed to %x", ahead+bad+behind, b)
				}
			}
		}
	}
}

// P2.2: nothing, false, of a list with a number that is no code point, wherever it stands.
func TestListsThatAreRefused(t *testing.T) {
	for _, r := range noPoints {
		for _, l := range [][]int{{r}, {r, 65}, {65, r}, {65, r, 8364}, {233, 8364, 128512, r}, {r, r}, {r, 0, r}} {
			asked := slices.Clone(l)
			if b, ok := Text(l); ok || len(b) != 0 {
				t.Errorf("Text(%v) = %x, %v", l, b, ok)
			}
			if !slices.Equal(l, asked) {
				t.Errorf("Text of %v changed it to %v", asked, l)
			}
		}
	}
}

// P2.3: lists are told there and back, and no bytes are those of two lists.
func TestListsThereAndBack(t *testing.T) {
	points := []int{0, 127, 128, 233, 2047, 2048, 8364, 55295, 57344, 65535, 65536, 128512, 1114111}
	seen := map[string]bool{}
	lists := [][]int{{}}
	for range 4 {
		var longer [][]int
		for _, l := range lists {
			checkList(t, l, seen)
			for _, r := range points {
				longer = append(longer, append(slices.Clone(l), r))
			}
		}
		lists = longer
	}
	if len(seen) != 1+13+169+2197 {
		t.Errorf("%d texts", len(seen))
	}
}

func checkList(t *testing.T, l []int, seen map[string]bool) {
	t.Helper()
	b, ok := Text(l)
	if !ok || seen[string(b)] {
		t.Fatalf("Text(%v) = %x, %v, or as another list", l, b, ok)
	}
	seen[string(b)] = true
	if !Valid(b) || !utf8.Valid(b) {
		t.Fatalf("Text(%v) = %x isn't valid", l, b)
	}
	if back, ok := All(b); !ok || !slices.Equal(back, l) {
		t.Fatalf("%v is %x, and back: %v, %v", l, b, back, ok)
	}
	var one []byte
	for _, r := range l {
		one = append(one, Put(r)...)
	}
	if !bytes.Equal(one, b) {
		t.Fatalf("Text(%v) = %x, and one by one %x", l, b, one)
	}
}

// P2.3: also a list of all code points there are; and its bytes aren't valid any more when one of them is gone.
func TestAllCodePointsInOneList(t *testing.T) {
	var l []int
	for r := range utf8.MaxRune + 1 {
		if utf8.ValidRune(r) {
			l = append(l, int(r))
		}
	}
	b, ok := Text(l)
	if !ok || len(b) != 128+2*1920+3*61440+4*1048576 {
		t.Fatalf("%d bytes, %v", len(b), ok)
	}
	if back, ok := All(b); !ok || !slices.Equal(back, l) {
		t.Errorf("and back: %d code points, %v", len(back), ok)
	}
	short := b[:len(b)-1]
	if back, ok := All(short); ok || len(back) != 0 || Valid(short) {
		t.Errorf("without the last byte: %d code points, %v", len(back), ok)
	}
}

// R3 and R4: each answer is the caller's own, and hangs on the argument alone.
func TestAnswersShareNothing(t *testing.T) {
	first := Put(8364)
	first[0] = 'x'
	_ = append(first, 'y')
	if second := Put(8364); string(second) != "\xe2\x82\xac" {
		t.Errorf("Put again: %x", second)
	}
	b := []byte("a\xc3\xa9")
	l, _ := All(b)
	b[0] = 'z'
	if !slices.Equal(l, []int{97, 233}) {
		t.Errorf("All changed with its argument: %v", l)
	}
	l[0] = 98
	if again, ok := All(b); !ok || !slices.Equal(again, []int{122, 233}) {
		t.Errorf("All again: %v, %v", again, ok)
	}
	text, _ := Text(l)
	l[1] = 0
	if string(text) != "b\xc3\xa9" {
		t.Errorf("Text changed with its argument: %x", text)
	}
	text[0] = 0
	if again, ok := Text(l); !ok || string(again) != "b\x00" {
		t.Errorf("Text again: %x, %v", again, ok)
	}
}

// P1: every call ends, and none panics; and the calls agree with each other.
func TestNoCallPanics(t *testing.T) {
	pieces := slices.Clone(noBegins)
	for _, e := range edges {
		pieces = append(pieces, e.b)
	}
	for _, p := range pieces {
		for _, q := range pieces {
			b := []byte(p + q)
			if r, count := Take(b); count < 0 || count > len(b) || count > 0 && !bytes.Equal(Put(r), b[:count]) {
				t.Fatalf("Take(%x) = %d, %d", b, r, count)
			}
			l, ok := All(b)
			if ok != utf8.Valid(b) || ok != Valid(b) {
				t.Fatalf("All(%x) = %v, %v", b, l, ok)
			}
			if back, told := Text(l); ok && (!told || !bytes.Equal(back, b)) {
				t.Fatalf("%x is %v, and back: %x, %v", b, l, back, told)
			}
		}
	}
}
