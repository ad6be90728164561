package stack

import (
	"math"
	"math/rand"
	"slices"
	"testing"

	"clavier/api"
)

// The calls are as the chapter has them, and so is a stack.
var (
	_ func(Stack, int) Stack      = Push
	_ func(Stack, int) Stack      = Pop
	_ func(Stack, int, int) Stack = Put
	_ func(a, b Stack) bool       = Same
	_ struct {
		Now  int
		Kept []int
	} = Stack{}
)

// number is a number, and the flags that are left of it.
type number struct{ n, flags int }

// noFlags are numbers that are no flags, with what is left of them by 32, written out.
func noFlags() []number {
	return []number{
		{32, 0}, {33, 1}, {34, 2}, {36, 4}, {40, 8}, {48, 16}, {63, 31}, {64, 0}, {95, 31}, {96, 0}, {97, 1},
		{127, 31}, {128, 0}, {255, 31}, {256, 0}, {257, 1}, {65535, 31}, {65536, 0}, {65541, 5}, {1114111, 31}, {1114112, 0},
		{math.MaxInt32, 31}, {1 << 31, 0}, {1<<31 + 21, 21}, {1 << 32, 0}, {1<<32 + 10, 10}, {1 << 62, 0}, {1<<62 + 9, 9},
		{math.MaxInt - 31, 0}, {math.MaxInt - 1, 30}, {math.MaxInt, 31},
		{-1, 0}, {-2, 0}, {-5, 0}, {-16, 0}, {-31, 0}, {-32, 0}, {-33, 0}, {-63, 0}, {-64, 0}, {-65535, 0}, {-1 << 31, 0}, {-1<<31 - 1, 0},
		{-1 << 32, 0}, {-1<<32 + 7, 0}, {math.MinInt + 31, 0}, {math.MinInt + 1, 0}, {math.MinInt, 0},
	}
}

// numbers are all flags, each as it is, and those that are none.
func numbers() []number {
	l := noFlags()
	for flags := range 32 {
		l = append(l, number{flags, flags})
	}
	return l
}

// noWays are numbers that are no way to change, among them those that would be one if they wrapped round.
func noWays() []int {
	l := []int{
		math.MinInt, math.MinInt + 1, math.MinInt + 2, math.MinInt + 3, math.MinInt32, -1 << 32, -1<<32 + 1, -3, -2, -1, 0,
		255, 256, 257, 258, 259, 65536, 65537, 65538, 65539, 1 << 31, 1<<31 + 1, 1 << 32, 1<<32 + 1, 1<<32 + 2, 1<<32 + 3, math.MaxInt32, math.MaxInt - 1, math.MaxInt,
	}
	for how := 4; how <= 100; how++ {
		l = append(l, how, -how)
	}
	return l
}

// of is a stack of those flags, and those kept.
func of(now int, kept ...int) Stack { return Stack{Now: now, Kept: kept} }

// nones are slices in which nothing is kept: nil, empty, and empty with room behind.
func nones() [][]int {
	return [][]int{nil, {}, make([]int, 0, 9), []int{7, 8, 9}[:0], []int{7, 8, 9}[3:]}
}

// keeping is a stack that keeps n flags, which count on from first, with its Now behind them.
func keeping(first, n int) Stack {
	kept := make([]int, n)
	for i := range kept {
		kept[i] = (first + i) * 7 % 32
	}
	return Stack{Now: (first + n) * 7 % 32, Kept: kept}
}

// copyOf is a stack like s, in memory of its own.
func copyOf(s Stack) Stack { return Stack{Now: s.Now, Kept: append([]int{}, s.Kept...)} }

// equal is Same, written out.
func equal(a, b Stack) bool {
	if a.Now != b.Now || len(a.Kept) != len(b.Kept) {
		return false
	}
	for i := range a.Kept {
		if a.Kept[i] != b.Kept[i] {
			return false
		}
	}
	return true
}

// plainPush is Push, of flags, written out.
func plainPush(s Stack, flags int) Stack {
	kept := append(copyOf(s).Kept, s.Now)
	for len(kept) > 8 {
		kept = kept[1:]
	}
	return Stack{Now: flags, Kept: kept}
}

// plainPop is Pop, one after the other; on none that is kept, and 0, there is nothing that popping changes.
func plainPop(s Stack, n int) Stack {
	s = copyOf(s)
	for i := 0; i < n && !equal(s, Stack{}); i++ {
		s.Now = 0
		if last := len(s.Kept) - 1; last >= 0 {
			s.Now, s.Kept = s.Kept[last], s.Kept[:last]
		}
	}
	return s
}

// plainPut is Put, of flags, written out, flag by flag.
func plainPut(s Stack, flags, how int) Stack {
	s = copyOf(s)
	if how < 1 || how > 3 {
		return s
	}
	was := s.Now
	s.Now = 0
	for _, flag := range []int{1, 2, 4, 8, 16} {
		before, given := was/flag%2 == 1, flags/flag%2 == 1
		if how == 1 && given || how == 2 && (before || given) || how == 3 && before && !given {
			s.Now += flag
		}
	}
	return s
}

// some is of a stack that keeps very much what it keeps last.
func some(s Stack) Stack { return Stack{Now: s.Now, Kept: s.Kept[max(0, len(s.Kept)-12):]} }

// check holds what was told against what is wanted.
func check(t *testing.T, what string, s Stack, args []int, got, want Stack) {
	t.Helper()
	if !equal(got, want) {
		t.Fatalf("%s(%+v, %d) = %+v, not %+v (%d kept, not %d)", what, some(s), args, some(got), some(want), len(got.Kept), len(want.Kept))
	}
}

func checkPush(t *testing.T, s Stack, flags int, want Stack) {
	t.Helper()
	check(t, "Push", s, []int{flags}, Push(s, flags), want)
}

func checkPop(t *testing.T, s Stack, n int, want Stack) {
	t.Helper()
	check(t, "Pop", s, []int{n}, Pop(s, n), want)
}

func checkPut(t *testing.T, s Stack, flags, how int, want Stack) {
	t.Helper()
	check(t, "Put", s, []int{flags, how}, Put(s, flags, how), want)
}

// checkSame holds Same, both ways round.
func checkSame(t *testing.T, a, b Stack, want bool) {
	t.Helper()
	if Same(a, b) != want || Same(b, a) != want {
		t.Errorf("Same(%+v, %+v) = %v, round the other way %v, not %v", some(a), some(b), Same(a, b), Same(b, a), want)
	}
}

// The chapter's example: pushed 1, and 5, and popped twice: 0 again.
func TestExample(t *testing.T) {
	s := Push(Push(Stack{}, 1), 5)
	check(t, "Push", of(1, 0), []int{5}, s, of(5, 0, 1))
	checkPop(t, s, 1, of(1, 0))
	checkPop(t, s, 2, of(0))
	checkPop(t, Pop(s, 1), 1, of(0))
	if api.Depth != 8 {
		t.Errorf("Depth %d", api.Depth)
	}
}

// P8.1: flags pushed on stacks that keep none, some, 7, 8 and more, written out.
func TestPush(t *testing.T) {
	for _, none := range nones() {
		checkPush(t, Stack{Kept: none}, 0, of(0, 0))
		checkPush(t, Stack{Now: 9, Kept: none}, 21, of(21, 9))
	}
	checkPush(t, of(2, 1), 3, of(3, 1, 2))
	checkPush(t, of(0, 0, 0), 0, of(0, 0, 0, 0))
	checkPush(t, of(7, 1, 2, 3, 4, 5, 6), 8, of(8, 1, 2, 3, 4, 5, 6, 7))
	checkPush(t, of(8, 1, 2, 3, 4, 5, 6, 7), 9, of(9, 1, 2, 3, 4, 5, 6, 7, 8))
	checkPush(t, of(9, 1, 2, 3, 4, 5, 6, 7, 8), 10, of(10, 2, 3, 4, 5, 6, 7, 8, 9))
	checkPush(t, of(10, 1, 2, 3, 4, 5, 6, 7, 8, 9), 11, of(11, 3, 4, 5, 6, 7, 8, 9, 10))
	checkPush(t, of(13, 1, 2, 3, 4, 5, 6, 7, 8, 9, 10, 11, 12), 31, of(31, 6, 7, 8, 9, 10, 11, 12, 13))
}

// P8.1: all flags over all flags, and numbers that are none, pushed on stacks that keep 0 to 20.
func TestEachNumberPushed(t *testing.T) {
	for kept := range 21 {
		for first := range 32 {
			s := keeping(first, kept)
			for _, n := range numbers() {
				checkPush(t, s, n.n, plainPush(s, n.flags))
			}
		}
	}
	for n := range 10000 {
		checkPush(t, of(1, 2), n, of(n&31, 2, 1))
		checkPush(t, of(1, 2), -n, of(0, 2, 1))
	}
}

// P8.1: pushed one after the other, the last 8 stay, and what was pushed ahead of them is kept no more.
func TestPushedOften(t *testing.T) {
	s := Stack{}
	for i := range 1000 {
		if got := len(s.Kept); got != min(i, 8) {
			t.Fatalf("%d pushed: %d kept", i, got)
		}
		for back := range s.Kept {
			was := (i - 1 - back) * 5 % 32
			if got := s.Kept[len(s.Kept)-1-back]; got != was {
				t.Fatalf("%d pushed, %d from the end: %d, not %d", i, back, got, was)
			}
		}
		s.Now = i * 5 % 32
		s = Push(s, i*3)
		if s.Now != i*3%32 {
			t.Fatalf("pushed %d: %d", i*3, s.Now)
		}
	}
}

// P8.1: popped less often than pushed, as often, and more often, written out.
func TestPop(t *testing.T) {
	s := of(5, 1, 2, 3, 4)
	checkPop(t, s, 1, of(4, 1, 2, 3))
	checkPop(t, s, 2, of(3, 1, 2))
	checkPop(t, s, 3, of(2, 1))
	checkPop(t, s, 4, of(1))
	checkPop(t, s, 5, of(0))
	checkPop(t, s, 6, of(0))
	checkPop(t, of(9, 1, 2, 3, 4, 5, 6, 7, 8), 7, of(2, 1))
	checkPop(t, of(9, 1, 2, 3, 4, 5, 6, 7, 8), 8, of(1))
	checkPop(t, of(9, 1, 2, 3, 4, 5, 6, 7, 8), 9, of(0))
	checkPop(t, of(11, 1, 2, 3, 4, 5, 6, 7, 8, 9, 10), 1, of(10, 1, 2, 3, 4, 5, 6, 7, 8, 9))
	checkPop(t, of(11, 1, 2, 3, 4, 5, 6, 7, 8, 9, 10), 9, of(2, 1))
	checkPop(t, of(7, 0, 0), 1, of(0, 0))
	checkPop(t, of(7, 0, 0), 2, of(0))
}

// often are very great numbers of times, and ones that would be small if they wrapped round.
func often() []int {
	return []int{
		100, 255, 256, 257, 258, 65535, 65536, 65537, 65538, 1 << 20, math.MaxInt32, 1 << 31, 1<<31 + 1,
		1 << 32, 1<<32 + 1, 1<<32 + 2, 1 << 62, math.MaxInt - 21, math.MaxInt - 8, math.MaxInt - 1, math.MaxInt,
	}
}

// seldom are numbers of times below 1.
func seldom() []int {
	return []int{0, -1, -2, -7, -8, -9, -256, -65535, math.MinInt32, -1 << 31, -1<<32 + 1, math.MinInt + 1, math.MinInt + 8, math.MinInt}
}

// P8.1: each number of times, on stacks that keep 0 to 20.
func TestEachNumberPopped(t *testing.T) {
	for kept := range 21 {
		for first := range 32 {
			s := keeping(first, kept)
			for n := -30; n <= 30; n++ {
				checkPop(t, s, n, plainPop(s, n))
			}
		}
	}
}

// P8.1: popped a very great number of times: nothing is kept, and it is 0.
func TestPoppedVeryOften(t *testing.T) {
	for kept := range 21 {
		for _, n := range often() {
			checkPop(t, keeping(3, kept), n, Stack{})
		}
	}
}

// P8.1: popped less than once: nothing changes.
func TestPoppedLessThanOnce(t *testing.T) {
	for kept := range 21 {
		for _, n := range seldom() {
			checkPop(t, keeping(3, kept), n, keeping(3, kept))
		}
	}
}

// P8.1: where nothing is kept, as nil or as an empty slice, popping is 0.
func TestPoppedOfNothing(t *testing.T) {
	for _, none := range nones() {
		for now := range 32 {
			s := Stack{Now: now, Kept: none}
			for n := 1; n <= 12; n++ {
				checkPop(t, s, n, Stack{})
			}
			for _, n := range often() {
				checkPop(t, s, n, Stack{})
			}
			for _, n := range seldom() {
				checkPop(t, s, n, of(now))
			}
		}
	}
}

// P8.1: popped n times is popped once, n times.
func TestPoppedOneByOne(t *testing.T) {
	for kept := range 12 {
		s := keeping(kept, kept)
		one := s
		for n := 1; n <= 15; n++ {
			one = Pop(one, 1)
			checkPop(t, s, n, one)
		}
	}
}

// P8.2: each way of changing, written out.
func TestPut(t *testing.T) {
	s := of(5, 1, 2)
	checkPut(t, s, 3, 1, of(3, 1, 2))
	checkPut(t, s, 3, 2, of(7, 1, 2))
	checkPut(t, s, 3, 3, of(4, 1, 2))
	checkPut(t, s, 0, 1, of(0, 1, 2))
	checkPut(t, s, 0, 2, s)
	checkPut(t, s, 0, 3, s)
	checkPut(t, s, 31, 1, of(31, 1, 2))
	checkPut(t, s, 31, 2, of(31, 1, 2))
	checkPut(t, s, 31, 3, of(0, 1, 2))
	checkPut(t, s, 42, 1, of(10, 1, 2))
	checkPut(t, s, 42, 2, of(15, 1, 2))
	checkPut(t, s, 37, 3, of(0, 1, 2))
	checkPut(t, s, -1, 1, of(0, 1, 2))
	checkPut(t, s, -1, 2, s)
	checkPut(t, s, -1, 3, s)
	checkPut(t, s, 3, 0, s)
	checkPut(t, s, 3, 4, s)
}

// P8.2: each way of changing, with all flags, and numbers that are none, over all flags.
func TestEachWayOfChanging(t *testing.T) {
	for now := range 32 {
		for _, n := range numbers() {
			for how := 1; how <= 3; how++ {
				for _, kept := range [][]int{nil, {}, {17}, {31, 0, 5}} {
					s := Stack{Now: now, Kept: kept}
					checkPut(t, s, n.n, how, plainPut(s, n.flags, how))
				}
			}
		}
	}
}

// P8.2: numbers that are no way of changing change nothing.
func TestNoWayOfChanging(t *testing.T) {
	for _, how := range noWays() {
		for now := range 32 {
			for _, n := range numbers() {
				checkPut(t, of(now, 4, 31), n.n, how, of(now, 4, 31))
			}
		}
	}
}

// P8.2: Kept stays, of whatever length.
func TestPutLeavesWhatIsKept(t *testing.T) {
	for kept := range 21 {
		for _, how := range []int{math.MinInt, -1, 0, 1, 2, 3, 4, math.MaxInt} {
			for _, flags := range []int{math.MinInt, -1, 0, 1, 6, 31, 32, 38, math.MaxInt} {
				s := keeping(5, kept)
				if got := Put(s, flags, how); !slices.Equal(got.Kept, s.Kept) {
					t.Fatalf("Put(%+v, %d, %d) keeps %d", s, flags, how, got.Kept)
				}
			}
		}
	}
	for _, none := range nones() {
		checkPut(t, Stack{Now: 8, Kept: none}, 9, 1, of(9))
		checkPut(t, Stack{Now: 8, Kept: none}, 1, 2, of(9))
		checkPut(t, Stack{Now: 9, Kept: none}, 1, 3, of(8))
		checkPut(t, Stack{Now: 8, Kept: none}, 9, 7, of(8))
	}
}

// P8.2: stacks that are the same, whatever memory they are in.
func TestSame(t *testing.T) {
	for kept := range 21 {
		for first := range 32 {
			s := keeping(first, kept)
			checkSame(t, s, s, true)
			checkSame(t, s, copyOf(s), true)
			longer := append(copyOf(s).Kept, 1, 2, 3)
			checkSame(t, s, Stack{Now: s.Now, Kept: longer[:kept]}, true)
		}
	}
	for _, a := range nones() {
		for _, b := range nones() {
			checkSame(t, Stack{Kept: a}, Stack{Kept: b}, true)
			checkSame(t, Stack{Now: 6, Kept: a}, Stack{Now: 6, Kept: b}, true)
			checkSame(t, Stack{Now: 6, Kept: a}, Stack{Now: 7, Kept: b}, false)
			checkSame(t, Stack{Now: 6, Kept: a}, Stack{Now: 6, Kept: append(b[:len(b):len(b)], 6)}, false)
		}
	}
}

// P8.2: stacks that differ in Now alone, in one that is kept, or in how many are kept, aren't the same.
func TestNotSame(t *testing.T) {
	others := []int{math.MinInt, -1, 1, 2, 4, 8, 16, 31, 32, 256, 1 << 32, math.MaxInt}
	for kept := range 13 {
		s := keeping(2, kept)
		for _, other := range others {
			b := copyOf(s)
			b.Now ^= other
			checkSame(t, s, b, false)
			for i := range kept {
				b := copyOf(s)
				b.Kept[i] ^= other
				checkSame(t, s, b, false)
			}
		}
		for less := range kept {
			checkSame(t, s, Stack{Now: s.Now, Kept: s.Kept[:less]}, false)
			checkSame(t, s, Stack{Now: s.Now, Kept: s.Kept[kept-less:]}, false)
		}
		for _, more := range []int{0, s.Now, 31} {
			checkSame(t, s, Stack{Now: s.Now, Kept: append(copyOf(s).Kept, more)}, false)
			checkSame(t, s, Stack{Now: s.Now, Kept: append([]int{more}, s.Kept...)}, false)
		}
	}
}

// P8.2: the same ones in another turn aren't the same.
func TestSameInTurn(t *testing.T) {
	checkSame(t, of(1, 2, 3), of(1, 3, 2), false)
	checkSame(t, of(1, 2), of(2, 1), false)
	checkSame(t, of(0, 0, 0), of(0, 0), false)
	checkSame(t, of(0), of(0, 0), false)
	checkSame(t, of(1), of(0, 1), false)
}

// P8.2: Same is as both are by their words, of all short stacks of some numbers.
func TestSameOfShortStacks(t *testing.T) {
	parts := []int{-1, 0, 1, 31, 32}
	var all []Stack
	for _, now := range parts {
		all = append(all, of(now))
		for _, one := range parts {
			all = append(all, of(now, one))
			for _, two := range parts {
				all = append(all, of(now, one, two))
			}
		}
	}
	for _, a := range all {
		for _, b := range all {
			checkSame(t, a, b, equal(a, b))
		}
	}
}

// P8.3: what is pushed, and popped as often, is as it was, as long as no more than 8 are kept.
func TestPushedAndPopped(t *testing.T) {
	for kept := range 9 {
		for often := range 9 - kept {
			for _, n := range numbers() {
				s := keeping(often, kept)
				pushed := s
				for i := range often {
					pushed = Push(pushed, n.n/(i+1))
				}
				if len(pushed.Kept) != kept+often {
					t.Fatalf("%d kept, not %d", len(pushed.Kept), kept+often)
				}
				checkPop(t, pushed, often, s)
				for range often {
					pushed = Pop(pushed, 1)
				}
				if !Same(pushed, s) {
					t.Fatalf("popped one by one: %+v, not %+v", pushed, s)
				}
			}
		}
	}
}

// P8.3: what stands between pushing and popping doesn't matter: Now changed, and more pushed and popped as often.
func TestPushedChangedAndPopped(t *testing.T) {
	for kept := range 7 {
		s := keeping(1, kept)
		for how := range 5 {
			for flags := range 32 {
				p := Put(Push(s, 6), flags, how)
				p = Pop(Put(Push(p, flags), 3, how), 1)
				checkPop(t, p, 1, s)
			}
		}
	}
}

// P8.3: where more than 8 would be kept, the first ones aren't any more: what is popped last is 0.
func TestPushedOftenerThanIsKept(t *testing.T) {
	for often := 9; often <= 20; often++ {
		s := of(30)
		for i := 1; i <= often; i++ {
			s = Push(s, i)
		}
		for i := 1; i <= 8; i++ {
			checkPop(t, s, i, plainPop(s, i))
			if got := Pop(s, i).Now; got != often-i {
				t.Fatalf("%d pushed, %d popped: %d", often, i, got)
			}
		}
		checkPop(t, s, 8, of(often-8))
		for i := 9; i <= often+1; i++ {
			checkPop(t, s, i, of(0))
		}
	}
	full := of(9, 1, 2, 3, 4, 5, 6, 7, 8)
	checkPop(t, Push(full, 1), 1, of(9, 2, 3, 4, 5, 6, 7, 8))
}

// P8.1, P8.2: numbers that are no flags, in a stack that is handed in, stay as they stand, where the words take them on.
func TestStacksThatMayNotBe(t *testing.T) {
	for _, n := range noFlags() {
		s := of(n.n, n.n, 1, n.n)
		checkPush(t, s, 3, of(3, n.n, 1, n.n, n.n))
		checkPush(t, s, n.n, of(n.flags, n.n, 1, n.n, n.n))
		checkPop(t, s, 0, s)
		checkPop(t, s, 1, of(n.n, n.n, 1))
		checkPop(t, s, 2, of(1, n.n))
		checkPop(t, s, 3, of(n.n))
		checkPop(t, s, 4, of(0))
		checkPut(t, s, 7, 1, of(7, n.n, 1, n.n))
		checkPut(t, s, 7, 0, s)
		checkSame(t, s, copyOf(s), true)
	}
}

// roomy is a stack that keeps n flags, and the whole memory under them, in which more lies behind their end.
func roomy(n int) (Stack, []int) {
	under := make([]int, n+12)
	for i := range under {
		under[i] = 100 + i
	}
	for i := range n {
		under[i] = i * 3 % 32
	}
	return Stack{Now: 29, Kept: under[:n]}, under
}

// scribble writes over all memory that was told.
func scribble(s Stack) {
	all := s.Kept[:cap(s.Kept)]
	for i := range all {
		all[i] = -77
	}
}

// calls are calls of all kinds that tell a stack.
func calls() map[string]func(s Stack) Stack {
	return map[string]func(s Stack) Stack{
		"Push(5)":       func(s Stack) Stack { return Push(s, 5) },
		"Push(-1)":      func(s Stack) Stack { return Push(s, -1) },
		"Pop(-1)":       func(s Stack) Stack { return Pop(s, -1) },
		"Pop(0)":        func(s Stack) Stack { return Pop(s, 0) },
		"Pop(1)":        func(s Stack) Stack { return Pop(s, 1) },
		"Pop(2)":        func(s Stack) Stack { return Pop(s, 2) },
		"Pop(7)":        func(s Stack) Stack { return Pop(s, 7) },
		"Pop(99)":       func(s Stack) Stack { return Pop(s, 99) },
		"Put(3, 1)":     func(s Stack) Stack { return Put(s, 3, 1) },
		"Put(3, 2)":     func(s Stack) Stack { return Put(s, 3, 2) },
		"Put(3, 3)":     func(s Stack) Stack { return Put(s, 3, 3) },
		"Put(3, 0)":     func(s Stack) Stack { return Put(s, 3, 0) },
		"Pop(Push)":     func(s Stack) Stack { return Pop(Push(s, 8), 1) },
		"Push(Pop)":     func(s Stack) Stack { return Push(Pop(s, 1), 8) },
		"Push(Push)":    func(s Stack) Stack { return Push(Push(s, 8), 9) },
		"Push(Pop(-1))": func(s Stack) Stack { return Push(Pop(s, -1), 8) },
	}
}

// R3: what is handed in stays as it was, with what lies behind its end, whatever is written over what was told.
func TestWhatIsHandedInStays(t *testing.T) {
	for kept := range 14 {
		for name, call := range calls() {
			s, under := roomy(kept)
			was := slices.Clone(under)
			for range 3 {
				told := call(s)
				if s.Now != 29 || len(s.Kept) != kept || !slices.Equal(under, was) {
					t.Fatalf("%s changed what was handed in, of %d kept: %+v over %v", name, kept, s, under)
				}
				scribble(told)
				if !slices.Equal(under, was) {
					t.Fatalf("%s told what was handed in, of %d kept: %v", name, kept, under)
				}
			}
		}
	}
}

// R3: what was told stays, whatever is written over what was handed in.
func TestWhatIsToldStays(t *testing.T) {
	for kept := range 14 {
		for name, call := range calls() {
			s, under := roomy(kept)
			told := call(s)
			was := copyOf(told)
			for i := range under {
				under[i] = -99
			}
			if !equal(told, was) {
				t.Fatalf("%s, of %d kept: %+v then, not %+v", name, kept, told, was)
			}
		}
	}
}

// R3: what one call told isn't changed by a later one, nor by what is written over what that one told.
func TestCallsShareNothing(t *testing.T) {
	for kept := range 14 {
		for one, first := range calls() {
			for two, second := range calls() {
				s, _ := roomy(kept)
				a := first(s)
				was := copyOf(a)
				b := second(s)
				next := second(a)
				if !equal(a, was) {
					t.Fatalf("%s, and then %s, of %d kept: %+v then, not %+v", one, two, kept, a, was)
				}
				scribble(b)
				scribble(next)
				if !equal(a, was) {
					t.Fatalf("%s, and %s written over, of %d kept: %+v then, not %+v", one, two, kept, a, was)
				}
			}
		}
	}
}

// R3: the same stack is pushed and popped, however often: what each call told stays as it was.
func TestTheSameStackAgainAndAgain(t *testing.T) {
	for kept := range 14 {
		s, under := roomy(kept)
		wasUnder := slices.Clone(under)
		var told, was []Stack
		for flags := range 32 {
			for _, a := range []Stack{Push(s, flags), Pop(s, flags%5), Push(Push(s, flags), 31-flags), Push(Pop(s, 1), flags), Put(s, flags, 1)} {
				told, was = append(told, a), append(was, copyOf(a))
			}
		}
		for i := range told {
			told, was = append(told, Push(told[i], i), Pop(told[i], 1)), append(was, plainPush(was[i], i%32), plainPop(was[i], 1))
		}
		for i := range told {
			if !equal(told[i], was[i]) {
				t.Fatalf("of %d kept, number %d: %+v then, not %+v", kept, i, told[i], was[i])
			}
		}
		if !slices.Equal(under, wasUnder) {
			t.Fatalf("of %d kept: %v then", kept, under)
		}
	}
}

// P8.1 to P8.3: all short rows of steps, against all of it written out.
func TestEachShortRowOfSteps(t *testing.T) {
	type step struct {
		own, plain func(s Stack) Stack
	}
	push := func(n, flags int) step {
		return step{func(s Stack) Stack { return Push(s, n) }, func(s Stack) Stack { return plainPush(s, flags) }}
	}
	pop := func(n int) step {
		return step{func(s Stack) Stack { return Pop(s, n) }, func(s Stack) Stack { return plainPop(s, n) }}
	}
	put := func(n, flags, how int) step {
		return step{func(s Stack) Stack { return Put(s, n, how) }, func(s Stack) Stack { return plainPut(s, flags, how) }}
	}
	steps := []step{push(1, 1), push(37, 5), push(-3, 0), pop(0), pop(1), pop(2), pop(3), put(10, 10, 1), put(36, 4, 2), put(5, 5, 3), put(9, 9, 4)}
	var walk func(s, plain Stack, left int)
	walk = func(s, plain Stack, left int) {
		if !equal(s, plain) {
			t.Fatalf("%+v, not %+v", s, plain)
		}
		if left == 0 {
			return
		}
		for _, st := range steps {
			walk(st.own(s), st.plain(plain), left-1)
		}
	}
	for kept := range 10 {
		walk(keeping(kept, kept), keeping(kept, kept), 4)
	}
}

// P8.1 to P8.3: long rows of steps, of a fixed seed, against all of it written out.
func TestLongRowsOfSteps(t *testing.T) {
	chance := rand.New(rand.NewSource(8))
	all := numbers()
	s, plain := Stack{}, Stack{}
	for i := range 300000 {
		n, how, times := all[chance.Intn(len(all))], chance.Intn(6)-1, chance.Intn(5)-1
		if chance.Intn(50) == 0 {
			times = often()[chance.Intn(len(often()))]
		}
		switch chance.Intn(5) {
		case 0, 1:
			s, plain = Push(s, n.n), plainPush(plain, n.flags)
		case 2:
			s, plain = Pop(s, times), plainPop(plain, times)
		default:
			s, plain = Put(s, n.n, how), plainPut(plain, n.flags, how)
		}
		if !equal(s, plain) || !Same(s, plain) {
			t.Fatalf("step %d: %+v, not %+v", i, s, plain)
		}
		if len(s.Kept) > 8 || s.Now < 0 || s.Now > 31 {
			t.Fatalf("step %d: %+v", i, s)
		}
	}
}

// R4: nothing is kept from call to call, and nothing hangs on the order of a map.
func TestNothingIsKept(t *testing.T) {
	s := of(12, 1, 2)
	for range 50 {
		checkPush(t, s, 35, of(3, 1, 2, 12))
		checkPut(t, s, 5, 1, of(5, 1, 2))
		checkPut(t, s, 5, 2, of(13, 1, 2))
		checkPut(t, s, 5, 3, of(8, 1, 2))
		checkPut(t, s, 5, 4, s)
		checkPop(t, s, 1, of(2, 1))
	}
	checkPush(t, Stack{}, 0, of(0, 0))
	checkPop(t, Stack{}, 1, Stack{})
	checkPut(t, Stack{}, 0, 2, Stack{})
}

// P1: every call ends, and none panics, at stacks and numbers of all kinds, also at ones that keep very much.
func TestNoCallPanics(t *testing.T) {
	ends := []int{math.MinInt, math.MinInt + 1, -33, -1, 0, 1, 2, 3, 4, 8, 31, 32, math.MaxInt - 1, math.MaxInt}
	for _, kept := range []int{0, 1, 7, 8, 9, 100, 1 << 18} {
		s := keeping(1, kept)
		for _, now := range ends {
			s.Now = now
			for _, n := range ends {
				if got := Push(s, n); len(got.Kept) != min(kept+1, 8) || got.Kept[len(got.Kept)-1] != now {
					t.Fatalf("Push of %d kept, and %d, %d: %+v", kept, now, n, some(got))
				}
				if got := Pop(s, n); len(got.Kept) != max(0, kept-min(max(n, 0), kept)) {
					t.Fatalf("Pop of %d kept, %d times: %d kept", kept, n, len(got.Kept))
				}
				if got := Put(s, n, n); len(got.Kept) != kept {
					t.Fatalf("Put of %d kept, %d: %d kept", kept, n, len(got.Kept))
				}
				if !Same(s, s) {
					t.Fatalf("not the same: %+v", some(s))
				}
			}
		}
	}
}
