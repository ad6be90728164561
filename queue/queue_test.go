package queue

import (
	"bytes"
	"math"
	"math/rand"
	"slices"
	"testing"

	"clavier/api"
)

// nones are items without bytes: nil, empty, and empty with room behind.
func nones() [][]byte {
	return [][]byte{nil, {}, make([]byte, 0, 9), []byte("abc")[3:]}
}

// some makes an item of n bytes that count on from first.
func some(first, n int) []byte {
	item := make([]byte, n)
	for i := range item {
		item[i] = byte((first + i) * 7 % 251)
	}
	return item
}

func checkCounts(t *testing.T, q *Queue, waits, dropped int) {
	t.Helper()
	if n, d := q.Len(), q.Dropped(); n != waits || d != dropped {
		t.Fatalf("Len %d, Dropped %d, not %d, %d", n, d, waits, dropped)
	}
}

func checkPush(t *testing.T, q *Queue, item []byte, want bool) {
	t.Helper()
	if ok := q.Push(item); ok != want {
		t.Fatalf("Push of %d bytes, while %d wait: %v", len(item), q.Len(), ok)
	}
}

func checkDrain(t *testing.T, q *Queue, n int, want []byte) {
	t.Helper()
	if b := q.Drain(n); !bytes.Equal(b, want) {
		t.Fatalf("Drain(%d) = %d bytes, %.40q, not %d, %.40q", n, len(b), b, len(want), want)
	}
}

// P4.1: a room of 64 to 65536; of every other one nil.
func TestNewOfEachRoom(t *testing.T) {
	for room := -70000; room <= 140000; room++ {
		q := New(room)
		if want := 64 <= room && room <= 65536; (q != nil) != want {
			t.Fatalf("New(%d): %v", room, q != nil)
		}
		if q != nil && (q.Len() != 0 || q.Dropped() != 0 || len(q.Drain(1)) != 0) {
			t.Fatalf("New(%d) isn't empty", room)
		}
	}
	for _, room := range []int{math.MinInt, math.MinInt + 64, math.MinInt32, -1 << 32, math.MaxInt32, 1 << 31, 1 << 32, 1<<32 + 64, 1<<32 + 65536, math.MaxInt - 1, math.MaxInt} {
		if New(room) != nil {
			t.Errorf("New(%d) isn't nil", room)
		}
	}
	if api.MinQueue != 64 || api.MaxQueue != 65536 {
		t.Errorf("MinQueue %d, MaxQueue %d", api.MinQueue, api.MaxQueue)
	}
}

// P4.1: an empty queue takes an item of all its room, and none that is longer.
func TestItemOfAllTheRoom(t *testing.T) {
	for _, room := range []int{64, 65, 66, 100, 127, 128, 4096, 5000, 65534, 65535, 65536} {
		q := New(room)
		for i, more := range []int{1, 2, room, 1 << 20} {
			checkPush(t, q, some(i, room+more), false)
			checkCounts(t, q, 0, i+1)
		}
		checkDrain(t, q, 1, nil)
		checkPush(t, q, some(5, room), true)
		checkCounts(t, q, room, 4)
		checkPush(t, q, some(6, 1), false)
		checkCounts(t, q, room, 5)
		checkDrain(t, q, room, some(5, room))
		checkPush(t, q, some(7, room-1), true)
		checkPush(t, q, some(8, 2), false)
		checkPush(t, q, some(9, 1), true)
		checkCounts(t, q, room, 6)
		checkDrain(t, q, room+1, append(some(7, room-1), some(9, 1)...))
		checkCounts(t, q, 0, 6)
	}
}

// P4.1: of whatever waits, an item that just fits, and one of a byte more, of which nothing waits.
func TestItemOfTheRoomThatIsLeft(t *testing.T) {
	for _, room := range []int{64, 65, 100} {
		for waits := 1; waits < room; waits++ {
			first := some(3, waits)
			left := some(3+waits, room-waits)
			q := New(room)
			checkPush(t, q, first, true)
			checkPush(t, q, append(slices.Clone(left), 'x'), false)
			checkCounts(t, q, waits, 1)
			checkPush(t, q, left, true)
			checkCounts(t, q, room, 1)
			checkDrain(t, q, room, some(3, room))
		}
	}
	for _, waits := range []int{1, 64, 65, 32768, 65472, 65535} {
		q := New(65536)
		checkPush(t, q, some(1, waits), true)
		checkPush(t, q, some(2, 65537-waits), false)
		checkPush(t, q, some(1+waits, 65536-waits), true)
		checkCounts(t, q, 65536, 1)
		checkDrain(t, q, math.MaxInt, some(1, 65536))
	}
}

// P4.1: of 64 bytes, with 60 that wait: an item of 5 is dropped, one of 4 isn't.
func TestExampleOfTheChapter(t *testing.T) {
	q := New(64)
	checkPush(t, q, some(0, 60), true)
	checkPush(t, q, some(1, 5), false)
	checkCounts(t, q, 60, 1)
	checkPush(t, q, some(60, 4), true)
	checkCounts(t, q, 64, 1)
	checkDrain(t, q, 64, some(0, 64))
}

// P4.1: an item without bytes always waits, and changes nothing.
func TestItemWithoutBytes(t *testing.T) {
	for _, room := range []int{64, 65536} {
		for _, waits := range []int{0, 1, room - 1, room} {
			q := New(room)
			checkPush(t, q, some(0, room+1), false)
			checkPush(t, q, some(0, waits), true)
			for _, none := range nones() {
				checkPush(t, q, none, true)
				checkCounts(t, q, waits, 1)
			}
			checkDrain(t, q, room, some(0, waits))
			for _, none := range nones() {
				checkPush(t, q, none, true)
				checkCounts(t, q, 0, 1)
			}
			checkDrain(t, q, 1, nil)
		}
	}
}

// P4.1 and P4.2: every item without room is counted, whatever is drained meanwhile; nothing else is.
func TestDroppedCounts(t *testing.T) {
	q := New(64)
	checkPush(t, q, some(0, 64), true)
	for i := range 70000 {
		checkPush(t, q, some(i, 1+i%100), false)
		checkCounts(t, q, 64, i+1)
	}
	checkDrain(t, q, 64, some(0, 64))
	checkCounts(t, q, 0, 70000)
	checkPush(t, q, some(0, 64), true)
	checkDrain(t, q, 0, nil)
	checkCounts(t, q, 64, 70000)
	checkPush(t, q, some(0, 65), false)
	checkCounts(t, q, 64, 70001)
}

// P4.2: the first n bytes that wait, or all, if these are fewer.
func TestDrainTellsTheFirst(t *testing.T) {
	for _, waits := range []int{0, 1, 2, 63, 64} {
		for _, n := range []int{math.MinInt, math.MinInt + 1, -1 << 32, math.MinInt32, -65, -64, -63, -2, -1, 0, 1, 2, 31, 62, 63, 64, 65, 128, 1 << 20, math.MaxInt32, 1 << 32, 1<<32 + 1, math.MaxInt - 1, math.MaxInt} {
			q := New(64)
			checkPush(t, q, some(2, 65), false)
			checkPush(t, q, some(2, waits/2), true)
			checkPush(t, q, some(2+waits/2, waits-waits/2), true)
			told := min(max(n, 0), waits)
			checkDrain(t, q, n, some(2, told))
			checkCounts(t, q, waits-told, 1)
			checkDrain(t, q, -n, some(2+told, min(max(-n, 0), waits-told)))
			checkPush(t, q, some(2+waits, 64-q.Len()), true)
			checkCounts(t, q, 64, 1)
			checkPush(t, q, some(0, 1), false)
		}
	}
}

// P4.2: byte by byte, and in pieces of every size, all of it is told once, in turn.
func TestDrainInPieces(t *testing.T) {
	for size := 1; size <= 70; size++ {
		q := New(64)
		for first := range 64 {
			checkPush(t, q, some(first, 1), true)
		}
		for at := 0; at < 64; at += size {
			checkCounts(t, q, 64-at, 0)
			checkDrain(t, q, size, some(at, min(size, 64-at)))
		}
		checkCounts(t, q, 0, 0)
		checkDrain(t, q, size, nil)
	}
	q := New(65536)
	checkPush(t, q, some(0, 65536), true)
	for at := range 65536 {
		if b := q.Drain(1); len(b) != 1 || b[0] != some(at, 1)[0] || q.Len() != 65535-at {
			t.Fatalf("Drain(1) of byte %d: %q, and %d wait", at, b, q.Len())
		}
	}
}

// P4.1 and P4.2: the room of what was drained is room again, however often.
func TestRoomComesBack(t *testing.T) {
	q := New(64)
	checkPush(t, q, some(0, 64), true)
	dropped := 0
	for at := 0; at < 20000; {
		n := 1 + at%63
		checkDrain(t, q, n, some(at, n))
		at += n
		checkPush(t, q, some(1, n+1), false)
		dropped++
		checkPush(t, q, some(at+64-n, n), true)
		checkCounts(t, q, 64, dropped)
	}
}

// P4.2: of a Queue that is nil: false, nothing, 0, whatever is handed in.
func TestQueueThatIsNil(t *testing.T) {
	for _, q := range []*Queue{nil, New(63), New(65537), New(0)} {
		for _, item := range append(nones(), []byte("a"), some(0, 64), some(0, 65537)) {
			if q.Push(item) {
				t.Errorf("Push of %d bytes: true", len(item))
			}
		}
		for _, n := range []int{math.MinInt, -1, 0, 1, 64, math.MaxInt} {
			if b := q.Drain(n); len(b) != 0 {
				t.Errorf("Drain(%d) = %q", n, b)
			}
		}
		if q.Len() != 0 || q.Dropped() != 0 {
			t.Errorf("Len %d, Dropped %d", q.Len(), q.Dropped())
		}
	}
}

// A plain is a queue by the chapter's words: the items that had room, all together, and how many of their bytes are drained.
type plain struct {
	room, drained, dropped int
	taken                  []byte
}

func (p *plain) push(item []byte) bool {
	if len(item)+len(p.taken)-p.drained > p.room {
		p.dropped++
		return false
	}
	p.taken = append(slices.Clone(p.taken), item...)
	return true
}

func (p *plain) drain(n int) []byte {
	told := p.taken[p.drained:]
	if n < len(told) {
		told = told[:max(n, 0)]
	}
	p.drained += len(told)
	return told
}

// checkStep pushes an item of size bytes, if size isn't below 0, else drains -1-size, of both, and holds them against each other.
func checkStep(t *testing.T, q *Queue, p *plain, size int) {
	t.Helper()
	if size < 0 {
		checkDrain(t, q, -1-size, p.drain(-1-size))
	} else {
		item := some(len(p.taken)+p.dropped*3, size)
		checkPush(t, q, item, p.push(item))
	}
	checkCounts(t, q, len(p.taken)-p.drained, p.dropped)
	if q.Len() > p.room {
		t.Fatalf("%d bytes wait in a room of %d", q.Len(), p.room)
	}
}

// P4.3: each short row of steps: what is drained, and what waits then, is the items that had room.
func TestEachShortRowOfSteps(t *testing.T) {
	sizes := []int{0, 1, 2, 31, 32, 33, 62, 63, 64, 65, -1, -2, -3, -33, -64, -65, -66}
	const steps = 4
	rows := 1
	for range steps {
		rows *= len(sizes)
	}
	for row := range rows {
		q, p := New(64), &plain{room: 64}
		for range steps {
			checkStep(t, q, p, sizes[row%len(sizes)])
			row /= len(sizes)
		}
		checkStep(t, q, p, -1-64)
		checkStep(t, q, p, -1-64)
	}
}

// P4.3: long rows of steps, in rooms of all sizes.
func TestLongRowsOfSteps(t *testing.T) {
	r := rand.New(rand.NewSource(4))
	for _, room := range []int{64, 65, 80, 100, 1000, 65535, 65536} {
		for range 20 {
			q, p := New(room), &plain{room: room}
			for range 300 {
				size := r.Intn([]int{2, 8, 64, room, 2 * room}[r.Intn(5)])
				if r.Intn(2) == 0 {
					size = -1 - size
				}
				checkStep(t, q, p, size)
				if p.drained == len(p.taken) {
					p.taken, p.drained = nil, 0 // So that what is held of the past stays small.
				}
			}
			checkStep(t, q, p, -1-room)
			checkCounts(t, q, 0, p.dropped)
		}
	}
}

// R3: what is pushed stays as it is, and may change afterwards.
func TestItemsAreNotShared(t *testing.T) {
	for _, count := range []int{1, 2, 64} {
		q := New(64)
		whole := some(0, 64)
		item := whole[:count]
		checkPush(t, q, item, true)
		for range 64 - count {
			checkPush(t, q, []byte("y"), true)
		}
		checkPush(t, q, item, false)
		checkPush(t, q, whole[:0], true)
		if !bytes.Equal(whole, some(0, 64)) {
			t.Fatalf("Push changed what it was handed, or what stands behind it: %q", whole)
		}
		for i := range whole {
			whole[i] = 'z'
		}
		checkDrain(t, q, 64, append(some(0, count), bytes.Repeat([]byte("y"), 64-count)...))
		if !bytes.Equal(whole, bytes.Repeat([]byte("z"), 64)) {
			t.Fatalf("Drain changed what was pushed: %q", whole)
		}
	}
}

// R3: what is drained is the caller's own: neither he nor the queue changes the other's bytes.
func TestDrainedIsNotShared(t *testing.T) {
	for _, n := range []int{1, 10, 30, 63, 64} {
		q := New(64)
		checkPush(t, q, some(0, 64), true)
		first := q.Drain(n)
		checkPush(t, q, some(64, n), true)
		if !bytes.Equal(first, some(0, n)) {
			t.Fatalf("Push changed what was drained: %q", first)
		}
		for i := range first {
			first[i] = 'z'
		}
		for b := first[:cap(first)]; len(b) > n; b = b[:len(b)-1] {
			b[len(b)-1] = 'z'
		}
		_ = append(first, "zzzz"...)
		second := q.Drain(32)
		checkPush(t, q, some(64+n, 32), true)
		if !bytes.Equal(second, some(n, 32)) {
			t.Fatalf("drained second: %q", second)
		}
		_ = append(second, first...)
		checkDrain(t, q, 64, some(n+32, 64))
		if !bytes.Equal(second, some(n, 32)) || !bytes.Equal(first, bytes.Repeat([]byte("z"), n)) {
			t.Fatalf("Drain changed what was drained: %q, %q", first, second)
		}
	}
}

// R4: queues have nothing in common.
func TestQueuesHaveNothingInCommon(t *testing.T) {
	a, b := New(64), New(64)
	checkPush(t, a, some(0, 64), true)
	checkPush(t, a, some(0, 1), false)
	checkCounts(t, b, 0, 0)
	checkPush(t, b, some(9, 30), true)
	checkPush(t, b, some(9, 35), false)
	checkPush(t, b, some(9, 35), false)
	checkDrain(t, b, 64, some(9, 30))
	checkCounts(t, a, 64, 1)
	checkCounts(t, b, 0, 2)
	checkDrain(t, a, 64, some(0, 64))
	checkCounts(t, New(64), 0, 0)
}

// P1: every call ends, and none panics, at whatever it is given.
func TestNoCallPanics(t *testing.T) {
	for _, room := range []int{math.MinInt, -1, 0, 63, 64, 65536, 65537, math.MaxInt} {
		q := New(room)
		for _, size := range []int{0, 1, 64, 65, 65536, 65537, 1 << 24} {
			for _, n := range []int{math.MinInt, -1, 0, 1, 63, 64, 65, math.MaxInt} {
				q.Push(make([]byte, size))
				if waits := q.Len(); waits < 0 || waits > max(room, 0) {
					t.Fatalf("%d bytes wait in a room of %d", waits, room)
				}
				if told := len(q.Drain(n)); told > max(n, 0) {
					t.Fatalf("Drain(%d) tells %d bytes", n, told)
				}
				q.Dropped()
			}
		}
	}
}
