package ring_test

import (
	"math"
	"math/rand/v2"
	"slices"
	"strings"
	"testing"

	"shardqueue/api"
	"shardqueue/message"
	"shardqueue/ring"
)

// extremes are numbers at which sums and comparisons are prone to go wrong.
var extremes = []int{math.MinInt, math.MinInt + 1, -13, -12, -1, 0, 1, 12, 13, api.MaxID, api.MaxID + 1, math.MaxInt - 1, math.MaxInt}

// long is a message whose error is ErrTooLong; that of the zero message is ErrRange.
var long = api.Message{ID: 70, Body: strings.Repeat("b", api.MaxBody+1)}

// msg returns a valid message in which no field is zero.
func msg(id int) api.Message {
	return api.Message{ID: id, Route: 40000 + id, Epoch: 2, Count: 3, Gen: 100 + id, Sent: 128, Body: "body"}
}

func msgs(ids ...int) []api.Message {
	l := []api.Message{}
	for _, id := range ids {
		l = append(l, msg(id))
	}
	return l
}

// numbered returns the messages first, first+1 and so on.
func numbered(first, size int) []api.Message {
	l := []api.Message{}
	for i := range size {
		l = append(l, msg(first+i))
	}
	return l
}

// laid returns the ring with these messages in order from head on.
func laid(capacity, head int, l []api.Message) api.Ring {
	r := api.Ring{Cells: make([]api.Message, capacity), Head: head, Size: len(l)}
	for i, m := range l {
		r.Cells[(head+i)%capacity] = m
	}
	return r
}

func same(a, b api.Ring) bool {
	return a.Head == b.Head && a.Size == b.Size && slices.Equal(a.Cells, b.Cells)
}

// eachShape calls f with each capacity, head and size.
func eachShape(f func(capacity, head, size int)) {
	for capacity := 1; capacity <= api.MaxCapacity; capacity++ {
		for head := range capacity {
			for size := range capacity + 1 {
				f(capacity, head, size)
			}
		}
	}
}

// broken is a ring that is not valid, with its error.
type broken struct {
	name string
	r    api.Ring
	want api.Errno
}

func brokenRings() []broken {
	full := laid(3, 1, msgs(1, 2, 3))
	all := []broken{
		{"zero", api.Ring{}, api.ErrRange},
		{"no cells", api.Ring{Cells: []api.Message{}}, api.ErrRange},
		{"13 free cells", api.Ring{Cells: make([]api.Message, 13)}, api.ErrRange},
		{"13 used cells", laid(13, 4, numbered(1, 13)), api.ErrRange},
		{"1000 cells", laid(1000, 999, numbered(1, 1000)), api.ErrRange},
		{"Head is the number of cells", api.Ring{Cells: full.Cells, Head: 3, Size: 3}, api.ErrRange},
		{"Head is the number of cells of an empty ring", api.Ring{Cells: make([]api.Message, 3), Head: 3}, api.ErrRange},
		{"Head is negative", api.Ring{Cells: full.Cells, Head: -1, Size: 3}, api.ErrRange},
		{"Head is negative in an empty ring", api.Ring{Cells: make([]api.Message, 3), Head: -1}, api.ErrRange},
		{"Size is above the number of cells", api.Ring{Cells: full.Cells, Head: 1, Size: 4}, api.ErrRange},
		{"Size is negative", api.Ring{Cells: make([]api.Message, 3), Size: -1}, api.ErrRange},

		{"a message behind the last one", api.Ring{Cells: full.Cells, Head: 1, Size: 2}, api.ErrState},
		{"a message before the first one", api.Ring{Cells: msgs(1, 2, 3), Head: 1, Size: 2}, api.ErrState},
		{"a message in an empty ring", api.Ring{Cells: msgs(1), Head: 0, Size: 0}, api.ErrState},
		{"a message in the last free cell", api.Ring{Cells: []api.Message{{}, msg(1), {}, {}, msg(2)}, Head: 1, Size: 1}, api.ErrState},
		{"a message in the last free cell of the circle", api.Ring{Cells: []api.Message{msg(2), {}, {}, msg(1)}, Head: 3, Size: 1}, api.ErrState},

		{"a zero message", api.Ring{Cells: make([]api.Message, 3), Head: 1, Size: 1}, api.ErrRange},
		{"a zero message behind another one", laid(3, 2, []api.Message{msg(1), {}}), api.ErrRange},
		{"a long body", laid(3, 0, []api.Message{long}), api.ErrTooLong},
		{"a long body at the end", laid(3, 1, []api.Message{msg(1), msg(2), long}), api.ErrTooLong},

		{"the same ID twice", laid(3, 1, msgs(5, 5)), api.ErrDuplicate},
		{"the same ID at both ends", laid(4, 2, msgs(5, 6, 7, 5)), api.ErrDuplicate},
		{"the same ID at the end", laid(12, 7, append(numbered(1, 11), msg(11))), api.ErrDuplicate},
		{"the same ID in different messages", laid(2, 0, []api.Message{msg(5), {ID: 5}}), api.ErrDuplicate},
	}
	for _, n := range []int{math.MinInt, math.MinInt + 1, math.MaxInt - 1, math.MaxInt} {
		all = append(all,
			broken{"an extreme Head", api.Ring{Cells: full.Cells, Head: n, Size: 3}, api.ErrRange},
			broken{"an extreme Size", api.Ring{Cells: full.Cells, Head: 1, Size: n}, api.ErrRange},
			broken{"an extreme Head and Size", api.Ring{Cells: full.Cells, Head: n, Size: n}, api.ErrRange},
			broken{"an extreme Head and Size of no cells", api.Ring{Head: n, Size: n}, api.ErrRange})
	}
	return append(all, doublyBroken()...)
}

// doublyBroken returns rings with two errors.
func doublyBroken() []broken {
	return []broken{
		{"13 cells, one of them not zero", api.Ring{Cells: numbered(1, 13)}, api.ErrRange},
		{"Head out of range and a free cell that is not zero", api.Ring{Cells: msgs(1, 2), Head: 2, Size: 1}, api.ErrRange},
		{"Size out of range and a long body", api.Ring{Cells: []api.Message{long}, Size: 2}, api.ErrRange},
		{"Size out of range and the same ID twice", api.Ring{Cells: msgs(1, 1), Size: 3}, api.ErrRange},
		{"a free cell that is not zero and a zero message", api.Ring{Cells: []api.Message{{}, msg(1)}, Size: 1}, api.ErrState},
		{"a free cell that is not zero and a long body", api.Ring{Cells: []api.Message{long, msg(1)}, Size: 1}, api.ErrState},
		{"a free cell that is not zero and the same ID twice", api.Ring{Cells: msgs(1, 1, 1), Size: 2}, api.ErrState},
		{"a long body in a free cell", api.Ring{Cells: []api.Message{msg(1), long}, Size: 1}, api.ErrState},
		{"a long body before a zero message", laid(2, 1, []api.Message{long, {}}), api.ErrTooLong},
		{"a zero message before a long body", laid(2, 1, []api.Message{{}, long}), api.ErrRange},
		{"the same ID twice before a long body", laid(3, 0, []api.Message{msg(1), msg(1), long}), api.ErrTooLong},
		{"the same ID twice before a zero message", laid(3, 0, []api.Message{msg(1), msg(1), {}}), api.ErrRange},
		{"a long body twice", laid(3, 0, []api.Message{long, long}), api.ErrTooLong},
		{"a zero message twice", laid(3, 0, []api.Message{{}, {}}), api.ErrRange},
	}
}

// P4.1

func TestNew(t *testing.T) {
	for n := 1; n <= 12; n++ {
		if r, e := ring.New(n); e != api.OK || !same(r, api.Ring{Cells: make([]api.Message, n)}) {
			t.Errorf("New(%d) = %+v, %d", n, r, e)
		}
	}
	for _, n := range []int{0, -1, 13, 1000, -1000, math.MinInt, math.MaxInt} {
		if r, e := ring.New(n); e != api.ErrRange || !same(r, api.Ring{}) {
			t.Errorf("New(%d) = %+v, %d, want %d", n, r, e, api.ErrRange)
		}
	}
}

func TestValidateEachShape(t *testing.T) {
	eachShape(func(capacity, head, size int) {
		r := laid(capacity, head, numbered(1, size))
		if e := ring.Validate(r); e != api.OK {
			t.Errorf("Validate(%+v) = %d", r, e)
		}
	})
}

func TestValidate(t *testing.T) {
	for _, c := range brokenRings() {
		if e := ring.Validate(c.r); e != c.want {
			t.Errorf("%s: Validate(%+v) = %d, want %d", c.name, c.r, e, c.want)
		}
	}
}

// A used cell may hold any valid message, in any order of the IDs.
func TestValidateAcceptsAllMessages(t *testing.T) {
	l := []api.Message{{ID: api.MaxID}, {ID: 1}, msg(9), {ID: 8, Body: strings.Repeat("b", api.MaxBody)}, {ID: 2, Route: api.Space - 1, Epoch: api.MaxEpoch, Count: api.MaxLimit, Gen: api.MaxGen, Sent: api.MaxClock}}
	if e := ring.Validate(laid(6, 4, l)); e != api.OK {
		t.Errorf("Validate = %d", e)
	}
}

func TestValidateEachFieldOfFreeCells(t *testing.T) {
	for _, m := range []api.Message{{ID: 1}, {Route: 1}, {Epoch: 1}, {Count: 1}, {Gen: 1}, {Sent: 1}, {Body: "b"}, {ID: -1}, {Body: "\x00"}} {
		eachShape(func(capacity, head, size int) {
			for free := size; free < capacity; free++ {
				r := laid(capacity, head, numbered(1, size))
				r.Cells[(head+free)%capacity] = m
				if e := ring.Validate(r); e != api.ErrState {
					t.Errorf("Validate(%+v) = %d, want %d", r, e, api.ErrState)
				}
			}
		})
	}
}

func TestValidateEachUsedCell(t *testing.T) {
	eachShape(func(capacity, head, size int) {
		for i := range size {
			for j := range i {
				r := laid(capacity, head, numbered(1, size))
				r.Cells[(head+i)%capacity].ID = j + 1
				if e := ring.Validate(r); e != api.ErrDuplicate {
					t.Errorf("Validate(%+v) = %d, want %d", r, e, api.ErrDuplicate)
				}
			}
			r := laid(capacity, head, numbered(1, size))
			r.Cells[(head+i)%capacity] = long
			if e := ring.Validate(r); e != api.ErrTooLong {
				t.Errorf("Validate(%+v) = %d, want %d", r, e, api.ErrTooLong)
			}
		}
	})
}

// The first message with an error is the first one in the order of the ring, not of the cells.
func TestValidateInTheOrderOfTheRing(t *testing.T) {
	cells := []api.Message{long, {ID: -1}, msg(3)}
	for head, want := range []api.Errno{api.ErrTooLong, api.ErrRange, api.ErrTooLong} {
		if e := ring.Validate(api.Ring{Cells: cells, Head: head, Size: 3}); e != want {
			t.Errorf("Head %d: Validate = %d, want %d", head, e, want)
		}
	}
}

func TestList(t *testing.T) {
	eachShape(func(capacity, head, size int) {
		want := numbered(1, size)
		if got := ring.List(laid(capacity, head, want)); !slices.Equal(got, want) {
			t.Errorf("capacity %d, head %d: List = %+v, want %+v", capacity, head, got, want)
		}
	})
	for _, c := range brokenRings() {
		if got := ring.List(c.r); len(got) != 0 {
			t.Errorf("%s: List(%+v) = %+v", c.name, c.r, got)
		}
	}
}

// The error of the ring comes first, whatever else is wrong.
func TestErrorOfTheRingComesFirst(t *testing.T) {
	for _, c := range brokenRings() {
		for _, m := range []api.Message{msg(90), msg(1), msg(5), {}, long} {
			if r, e := ring.PushBack(c.r, m); e != c.want || !same(r, api.Ring{}) {
				t.Errorf("%s: PushBack of %+v = %+v, %d, want %d", c.name, m, r, e, c.want)
			}
			if r, e := ring.PushFront(c.r, m); e != c.want || !same(r, api.Ring{}) {
				t.Errorf("%s: PushFront of %+v = %+v, %d, want %d", c.name, m, r, e, c.want)
			}
			for _, l := range [][]api.Message{nil, {m}, {m, m}, numbered(30, 1000)} {
				if r, e := ring.Absorb(c.r, l); e != c.want || !same(r, api.Ring{}) {
					t.Errorf("%s: Absorb of %+v = %+v, %d, want %d", c.name, l, r, e, c.want)
				}
			}
		}
		if r, m, e := ring.PopFront(c.r); e != c.want || !same(r, api.Ring{}) || m != (api.Message{}) {
			t.Errorf("%s: PopFront = %+v, %+v, %d, want %d", c.name, r, m, e, c.want)
		}
		if r, m, e := ring.PopBack(c.r); e != c.want || !same(r, api.Ring{}) || m != (api.Message{}) {
			t.Errorf("%s: PopBack = %+v, %+v, %d, want %d", c.name, r, m, e, c.want)
		}
		for _, n := range append([]int{2, 5, 70, 90}, extremes...) {
			if r, m, e := ring.Remove(c.r, n); e != c.want || !same(r, api.Ring{}) || m != (api.Message{}) {
				t.Errorf("%s: Remove(%d) = %+v, %+v, %d, want %d", c.name, n, r, m, e, c.want)
			}
			if r, l, e := ring.Detach(c.r, n); e != c.want || !same(r, api.Ring{}) || len(l) != 0 {
				t.Errorf("%s: Detach(%d) = %+v, %+v, %d, want %d", c.name, n, r, l, e, c.want)
			}
		}
	}
}

// P4.2

func TestPush(t *testing.T) {
	eachShape(func(capacity, head, size int) {
		if size == capacity {
			return
		}
		l := numbered(1, size)
		r := laid(capacity, head, l)
		want := laid(capacity, head, append(slices.Clone(l), msg(50)))
		if got, e := ring.PushBack(r, msg(50)); e != api.OK || !same(got, want) {
			t.Errorf("PushBack(%+v) = %+v, %d, want %+v", r, got, e, want)
		}
		want = laid(capacity, (head+capacity-1)%capacity, append(msgs(50), l...))
		if got, e := ring.PushFront(r, msg(50)); e != api.OK || !same(got, want) {
			t.Errorf("PushFront(%+v) = %+v, %d, want %+v", r, got, e, want)
		}
	})
}

func TestPushErrors(t *testing.T) {
	for _, c := range []struct {
		name string
		l    []api.Message
		m    api.Message
		want api.Errno
	}{
		{"full", msgs(1, 2, 3), msg(4), api.ErrFull},
		{"the same message", msgs(1, 2), msg(2), api.ErrDuplicate},
		{"the same ID as the first one", msgs(1, 2), api.Message{ID: 1}, api.ErrDuplicate},
		{"a zero message", msgs(1, 2), api.Message{}, api.ErrRange},
		{"a zero message to an empty ring", nil, api.Message{}, api.ErrRange},
		{"an ID that is too great", nil, api.Message{ID: api.MaxID + 1}, api.ErrRange},
		{"a long body", nil, long, api.ErrTooLong},

		{"full, and the same message", msgs(1, 2, 3), msg(3), api.ErrFull},
		{"full, and a zero message", msgs(1, 2, 3), api.Message{}, api.ErrRange},
		{"full, and a long body", msgs(1, 2, 3), long, api.ErrTooLong},
		{"the same ID, and not valid", msgs(1, 2), api.Message{ID: 2, Sent: -1}, api.ErrRange},
		{"the same ID, and a long body", msgs(1, 70), long, api.ErrTooLong},
		{"full, the same ID, and a long body", msgs(1, 2, 70), long, api.ErrTooLong},
	} {
		for head := range 3 {
			r := laid(3, head, c.l)
			if got, e := ring.PushBack(r, c.m); e != c.want || !same(got, api.Ring{}) {
				t.Errorf("%s, head %d: PushBack = %+v, %d, want %d", c.name, head, got, e, c.want)
			}
			if got, e := ring.PushFront(r, c.m); e != c.want || !same(got, api.Ring{}) {
				t.Errorf("%s, head %d: PushFront = %+v, %d, want %d", c.name, head, got, e, c.want)
			}
		}
	}
}

func TestPushOfEachIDThatIsThere(t *testing.T) {
	eachShape(func(capacity, head, size int) {
		if size == capacity {
			return
		}
		for i := range size {
			r := laid(capacity, head, numbered(1, size))
			if got, e := ring.PushBack(r, msg(i+1)); e != api.ErrDuplicate || !same(got, api.Ring{}) {
				t.Errorf("PushBack(%+v) of %d = %+v, %d", r, i+1, got, e)
			}
			if got, e := ring.PushFront(r, msg(i+1)); e != api.ErrDuplicate || !same(got, api.Ring{}) {
				t.Errorf("PushFront(%+v) of %d = %+v, %d", r, i+1, got, e)
			}
		}
	})
}

// The example of the chapter.
func TestPushFrontToAnEmptyRing(t *testing.T) {
	r, e := ring.New(3)
	if e != api.OK {
		t.Fatal(e)
	}
	r, e = ring.PushFront(r, api.Message{ID: 1})
	if e != api.OK || r.Head != 2 || r.Size != 1 || r.Cells[2] != (api.Message{ID: 1}) {
		t.Errorf("PushFront = %+v, %d", r, e)
	}
}

// P4.3

func TestPop(t *testing.T) {
	eachShape(func(capacity, head, size int) {
		if size == 0 {
			return
		}
		l := numbered(1, size)
		r := laid(capacity, head, l)
		want := laid(capacity, (head+1)%capacity, l[1:])
		if got, m, e := ring.PopFront(r); e != api.OK || m != l[0] || !same(got, want) {
			t.Errorf("PopFront(%+v) = %+v, %+v, %d, want %+v", r, got, m, e, want)
		}
		want = laid(capacity, head, l[:size-1])
		if got, m, e := ring.PopBack(r); e != api.OK || m != l[size-1] || !same(got, want) {
			t.Errorf("PopBack(%+v) = %+v, %+v, %d, want %+v", r, got, m, e, want)
		}
	})
}

func TestPopOfAnEmptyRing(t *testing.T) {
	eachShape(func(capacity, head, size int) {
		if size > 0 {
			return
		}
		r := laid(capacity, head, nil)
		if got, m, e := ring.PopFront(r); e != api.ErrMissing || m != (api.Message{}) || !same(got, api.Ring{}) {
			t.Errorf("PopFront(%+v) = %+v, %+v, %d", r, got, m, e)
		}
		if got, m, e := ring.PopBack(r); e != api.ErrMissing || m != (api.Message{}) || !same(got, api.Ring{}) {
			t.Errorf("PopBack(%+v) = %+v, %+v, %d", r, got, m, e)
		}
	})
}

func TestRemove(t *testing.T) {
	eachShape(func(capacity, head, size int) {
		for i := range size {
			l := numbered(1, size)
			r := laid(capacity, head, l)
			want := laid(capacity, head, slices.Delete(slices.Clone(l), i, i+1))
			if got, m, e := ring.Remove(r, i+1); e != api.OK || m != l[i] || !same(got, want) {
				t.Errorf("Remove(%+v, %d) = %+v, %+v, %d, want %+v", r, i+1, got, m, e, want)
			}
		}
	})
}

// No free cell is taken for a message, not even for the ID 0.
func TestRemoveOfWhatIsMissing(t *testing.T) {
	eachShape(func(capacity, head, size int) {
		r := laid(capacity, head, numbered(2, size))
		for _, id := range []int{size + 2, 1, 0, -1, -2, api.MaxID, api.MaxID + 1, math.MinInt, math.MaxInt} {
			if got, m, e := ring.Remove(r, id); e != api.ErrMissing || m != (api.Message{}) || !same(got, api.Ring{}) {
				t.Errorf("Remove(%+v, %d) = %+v, %+v, %d", r, id, got, m, e)
			}
		}
	})
}

// P4.4

func TestDetach(t *testing.T) {
	eachShape(func(capacity, head, size int) {
		l := numbered(1, size)
		r := laid(capacity, head, l)
		for k := range size + 1 {
			want := laid(capacity, head, l[:size-k])
			if got, d, e := ring.Detach(r, k); e != api.OK || !slices.Equal(d, l[size-k:]) || !same(got, want) {
				t.Errorf("Detach(%+v, %d) = %+v, %+v, %d, want %+v", r, k, got, d, e, want)
			}
		}
		for _, k := range []int{-1, size + 1, capacity + 1, -size - 1, math.MinInt, math.MinInt + 1, math.MaxInt} {
			if got, d, e := ring.Detach(r, k); e != api.ErrRange || len(d) != 0 || !same(got, api.Ring{}) {
				t.Errorf("Detach(%+v, %d) = %+v, %+v, %d", r, k, got, d, e)
			}
		}
	})
}

func TestAbsorb(t *testing.T) {
	eachShape(func(capacity, head, size int) {
		r := laid(capacity, head, numbered(1, size))
		for k := range capacity - size + 1 {
			// The IDs are in descending order: the order of the list counts.
			l := numbered(50, k)
			slices.Reverse(l)
			want := laid(capacity, head, append(numbered(1, size), l...))
			if got, e := ring.Absorb(r, l); e != api.OK || !same(got, want) {
				t.Errorf("Absorb(%+v) of %+v = %+v, %d, want %+v", r, l, got, e, want)
			}
		}
		for _, k := range []int{capacity - size + 1, capacity + 1, 13, 1000} {
			if got, e := ring.Absorb(r, numbered(50, k)); e != api.ErrFull || !same(got, api.Ring{}) {
				t.Errorf("Absorb(%+v) of %d messages = %+v, %d", r, k, got, e)
			}
		}
	})
}

func TestAbsorbErrors(t *testing.T) {
	for _, c := range []struct {
		name string
		l    []api.Message
		want api.Errno
	}{
		{"nothing", nil, api.OK},
		{"an empty list", []api.Message{}, api.OK},
		{"one", msgs(5), api.OK},
		{"three", msgs(5, 4, 6), api.OK},
		{"four", msgs(5, 4, 6, 7), api.ErrFull},
		{"a message that is there", msgs(2), api.ErrDuplicate},
		{"a message that is there at the end", msgs(5, 6, 1), api.ErrDuplicate},
		{"a message twice", msgs(5, 5), api.ErrDuplicate},
		{"a message twice with another one between", msgs(5, 6, 5), api.ErrDuplicate},
		{"the same ID in different messages", []api.Message{msg(5), {ID: 5}}, api.ErrDuplicate},
		{"a zero message", []api.Message{{}}, api.ErrRange},
		{"a zero message at the end", []api.Message{msg(5), msg(6), {}}, api.ErrRange},
		{"a long body", []api.Message{long}, api.ErrTooLong},

		{"four, all of them there", msgs(1, 2, 1, 2), api.ErrFull},
		{"four zero messages", make([]api.Message, 4), api.ErrFull},
		{"four long bodies", []api.Message{long, long, long, long}, api.ErrFull},
		{"a zero message before a long body", []api.Message{{}, long}, api.ErrRange},
		{"a long body before a zero message", []api.Message{long, {}}, api.ErrTooLong},
		{"a message that is there before a zero message", []api.Message{msg(1), {}}, api.ErrDuplicate},
		{"a zero message before one that is there", []api.Message{{}, msg(1)}, api.ErrRange},
		{"a message twice before a long body", []api.Message{msg(5), msg(5), long}, api.ErrDuplicate},
		{"a long body twice", []api.Message{long, long}, api.ErrTooLong},
		{"the ID of one that is there, with a long body", []api.Message{{ID: 1, Body: long.Body}}, api.ErrTooLong},
	} {
		for head := range 5 {
			r := laid(5, head, msgs(1, 2))
			want := api.Ring{}
			if c.want == api.OK {
				want = laid(5, head, append(msgs(1, 2), c.l...))
			}
			if got, e := ring.Absorb(r, c.l); e != c.want || !same(got, want) {
				t.Errorf("%s, head %d: Absorb = %+v, %d, want %+v, %d", c.name, head, got, e, want, c.want)
			}
		}
	}
}

func TestAbsorbOfNothingToAFullRing(t *testing.T) {
	eachShape(func(capacity, head, size int) {
		if size < capacity {
			return
		}
		r := laid(capacity, head, numbered(1, size))
		for _, l := range [][]api.Message{nil, {}} {
			if got, e := ring.Absorb(r, l); e != api.OK || !same(got, r) {
				t.Errorf("Absorb(%+v) = %+v, %d", r, got, e)
			}
		}
		for _, m := range []api.Message{msg(50), msg(1), {}, long} {
			if got, e := ring.Absorb(r, []api.Message{m}); e != api.ErrFull || !same(got, api.Ring{}) {
				t.Errorf("Absorb(%+v) of %+v = %+v, %d", r, m, got, e)
			}
		}
	})
}

// P4.5

// What is pushed at one end is popped there first, and at the other end last.
func TestEnds(t *testing.T) {
	type push = func(api.Ring, api.Message) (api.Ring, api.Errno)
	type pop = func(api.Ring) (api.Ring, api.Message, api.Errno)
	for _, c := range []struct {
		name  string
		push  push
		pop   pop
		first int
	}{
		{"back, back", ring.PushBack, ring.PopBack, 60},
		{"back, front", ring.PushBack, ring.PopFront, 1},
		{"front, front", ring.PushFront, ring.PopFront, 60},
		{"front, back", ring.PushFront, ring.PopBack, 1},
	} {
		eachShape(func(capacity, head, size int) {
			if size == capacity {
				return
			}
			r, e := c.push(laid(capacity, head, numbered(1, size)), msg(60))
			var got []int
			for e == api.OK {
				var m api.Message
				if r, m, e = c.pop(r); e == api.OK {
					got = append(got, m.ID)
				}
			}
			if e != api.ErrMissing || len(got) != size+1 {
				t.Fatalf("%s: popped %v of %d, %d", c.name, got, size+1, e)
			}
			at := 0
			if c.first == 1 {
				at = size
			}
			if got[at] != 60 {
				t.Errorf("%s: capacity %d, head %d: popped %v", c.name, capacity, head, got)
			}
		})
	}
}

func TestPopUndoesPush(t *testing.T) {
	eachShape(func(capacity, head, size int) {
		if size == capacity {
			return
		}
		r := laid(capacity, head, numbered(1, size))
		back, _ := ring.PushBack(r, msg(50))
		if got, m, e := ring.PopBack(back); e != api.OK || m != msg(50) || !same(got, r) {
			t.Errorf("PopBack of PushBack(%+v) = %+v, %+v, %d", r, got, m, e)
		}
		front, _ := ring.PushFront(r, msg(50))
		if got, m, e := ring.PopFront(front); e != api.OK || m != msg(50) || !same(got, r) {
			t.Errorf("PopFront of PushFront(%+v) = %+v, %+v, %d", r, got, m, e)
		}
	})
}

func TestAbsorbUndoesDetach(t *testing.T) {
	eachShape(func(capacity, head, size int) {
		r := laid(capacity, head, numbered(1, size))
		for k := range size + 1 {
			rest, l, e := ring.Detach(r, k)
			if e != api.OK {
				t.Fatalf("Detach(%+v, %d): %d", r, k, e)
			}
			if got, e := ring.Absorb(rest, l); e != api.OK || !same(got, r) {
				t.Errorf("Absorb of Detach(%+v, %d) = %+v, %d", r, k, got, e)
			}
		}
	})
}

// model is a ring as a list, with the place where it begins.
type model struct {
	capacity, head int
	l              []api.Message
}

func (m model) ring() api.Ring { return laid(m.capacity, m.head, m.l) }

func (m model) at(id int) int {
	return slices.IndexFunc(m.l, func(x api.Message) bool { return x.ID == id })
}

func (m model) pushed(x api.Message, front bool) (model, api.Errno) {
	if e := message.Validate(x); e != api.OK {
		return m, e
	}
	if len(m.l) == m.capacity {
		return m, api.ErrFull
	}
	if m.at(x.ID) >= 0 {
		return m, api.ErrDuplicate
	}
	if front {
		return model{m.capacity, (m.head + m.capacity - 1) % m.capacity, append([]api.Message{x}, m.l...)}, api.OK
	}
	return model{m.capacity, m.head, append(slices.Clone(m.l), x)}, api.OK
}

func (m model) absorbed(l []api.Message) (model, api.Errno) {
	if len(m.l)+len(l) > m.capacity {
		return m, api.ErrFull
	}
	for _, x := range l {
		var e api.Errno
		if m, e = m.pushed(x, false); e != api.OK {
			return m, e
		}
	}
	return m, api.OK
}

// without removes count messages from the index i on.
func (m model) without(i, count int) (model, []api.Message, api.Errno) {
	return model{m.capacity, m.head, slices.Delete(slices.Clone(m.l), i, i+count)}, slices.Clone(m.l[i : i+count]), api.OK
}

// step applies the function with a number to the ring and to the model, with results in the same form.
func step(kind int, r api.Ring, m model, n int, l []api.Message) (gotRing api.Ring, got []api.Message, gotErr api.Errno, next model, want []api.Message, wantErr api.Errno) {
	var x api.Message
	last := len(m.l) - 1
	next = m
	switch kind {
	case 0:
		gotRing, gotErr = ring.PushBack(r, msg(n))
		next, wantErr = m.pushed(msg(n), false)
	case 1:
		gotRing, gotErr = ring.PushFront(r, msg(n))
		next, wantErr = m.pushed(msg(n), true)
	case 2:
		gotRing, x, gotErr = ring.PopFront(r)
		got, wantErr = []api.Message{x}, api.ErrMissing
		if last >= 0 {
			next, want, wantErr = m.without(0, 1)
			next.head = (next.head + 1) % next.capacity
		}
	case 3:
		gotRing, x, gotErr = ring.PopBack(r)
		got, wantErr = []api.Message{x}, api.ErrMissing
		if last >= 0 {
			next, want, wantErr = m.without(last, 1)
		}
	case 4:
		gotRing, x, gotErr = ring.Remove(r, n)
		got, wantErr = []api.Message{x}, api.ErrMissing
		if i := m.at(n); i >= 0 {
			next, want, wantErr = m.without(i, 1)
		}
	case 5:
		gotRing, got, gotErr = ring.Detach(r, n)
		wantErr = api.ErrRange
		if n >= 0 && n <= len(m.l) {
			next, want, wantErr = m.without(len(m.l)-n, n)
		}
	case 6:
		gotRing, gotErr = ring.Absorb(r, l)
		next, wantErr = m.absorbed(l)
	}
	return gotRing, got, gotErr, next, want, wantErr
}

// Long runs of all functions, each step compared with the list.
func TestLikeAList(t *testing.T) {
	random := rand.New(rand.NewPCG(4, 4))
	count := map[[2]int]int{}
	for capacity := 1; capacity <= api.MaxCapacity; capacity++ {
		r, _ := ring.New(capacity)
		m := model{capacity: capacity}
		for range 20000 {
			kind, n := random.IntN(7), random.IntN(2*capacity+2)-1
			l := []api.Message{}
			for range random.IntN(4) {
				l = append(l, msg(random.IntN(2*capacity+1)))
			}
			gotRing, got, gotErr, next, want, wantErr := step(kind, r, m, n, l)
			count[[2]int{kind, int(wantErr)}]++
			if gotErr != wantErr {
				t.Fatalf("function %d of %+v with %d: error %d, want %d", kind, r, n, gotErr, wantErr)
			}
			if wantErr != api.OK {
				if !same(gotRing, api.Ring{}) || slices.ContainsFunc(got, func(x api.Message) bool { return x != api.Message{} }) {
					t.Fatalf("function %d of %+v with %d: error %d, and %+v, %+v", kind, r, n, gotErr, gotRing, got)
				}
				continue
			}
			if !same(gotRing, next.ring()) || !slices.Equal(got, want) || ring.Validate(gotRing) != api.OK || !slices.Equal(ring.List(gotRing), next.l) {
				t.Fatalf("function %d of %+v with %d: %+v, %+v, want %+v, %+v", kind, r, n, gotRing, got, next.ring(), want)
			}
			r, m = gotRing, next
		}
	}
	for _, c := range [][2]int{{0, 0}, {0, 1}, {0, 3}, {0, 10}, {1, 0}, {1, 1}, {1, 3}, {1, 10}, {2, 0}, {2, 4}, {3, 0}, {3, 4}, {4, 0}, {4, 4}, {5, 0}, {5, 1}, {6, 0}, {6, 1}, {6, 3}, {6, 10}} {
		if count[c] < 100 {
			t.Errorf("function %d ended only %d times with the error %d", c[0], count[c], c[1])
		}
	}
}

// Rules

// R1 and R4: every function returns for all arguments, and with an error nothing else.
func TestAllArguments(t *testing.T) {
	for _, cells := range [][]api.Message{nil, make([]api.Message, 1), make([]api.Message, 12), make([]api.Message, 13), make([]api.Message, 1000), msgs(1), msgs(3, 1, 2), numbered(1, 12), numbered(1, 13), {long}, {msg(1), {}}, {{}, msg(1)}} {
		for _, head := range extremes {
			for _, size := range extremes {
				r := api.Ring{Cells: cells, Head: head, Size: size}
				for _, n := range extremes {
					callAll(t, r, n)
				}
			}
		}
	}
}

func callAll(t *testing.T, r api.Ring, n int) {
	l := ring.List(r)
	if e := ring.Validate(r); e != api.OK && len(l) > 0 || e == api.OK && len(l) != r.Size {
		t.Errorf("List(%+v) = %+v, and Validate %d", r, l, e)
	}
	m := api.Message{ID: n, Route: n, Epoch: n, Count: n, Gen: n, Sent: n}
	a, e := ring.PushBack(r, m)
	check(t, "PushBack", r, a, e, +1)
	a, e = ring.PushFront(r, m)
	check(t, "PushFront", r, a, e, +1)
	a, _, e = ring.PopFront(r)
	check(t, "PopFront", r, a, e, -1)
	a, _, e = ring.PopBack(r)
	check(t, "PopBack", r, a, e, -1)
	a, _, e = ring.Remove(r, n)
	check(t, "Remove", r, a, e, -1)
	a, d, e := ring.Detach(r, n)
	check(t, "Detach", r, a, e, -len(d))
	a, e = ring.Absorb(r, []api.Message{m, msg(1000)})
	check(t, "Absorb", r, a, e, +2)
}

// check tests that a result is valid and has that many more messages, or is zero with an error.
func check(t *testing.T, name string, r, got api.Ring, e api.Errno, more int) {
	if e != api.OK && !same(got, api.Ring{}) {
		t.Errorf("%s(%+v) = %+v, %d", name, r, got, e)
	}
	if e == api.OK && (ring.Validate(got) != api.OK || got.Size != r.Size+more || len(got.Cells) != len(r.Cells)) {
		t.Errorf("%s(%+v) = %+v", name, r, got)
	}
}

// R2: no function changes its arguments, and results are new memory.
func TestNothingIsShared(t *testing.T) {
	for _, size := range []int{0, 1, 3, 4} {
		// The room behind the cells would be written to by an append in place.
		room := append(laid(4, 3, numbered(1, size)).Cells, msg(98), msg(99))
		r := api.Ring{Cells: room[:4], Head: 3, Size: size}
		before := slices.Clone(room)
		for name, f := range map[string]func() (api.Ring, []api.Message){
			"List":           func() (api.Ring, []api.Message) { return api.Ring{}, ring.List(r) },
			"PushBack":       func() (api.Ring, []api.Message) { x, _ := ring.PushBack(r, msg(50)); return x, nil },
			"PushFront":      func() (api.Ring, []api.Message) { x, _ := ring.PushFront(r, msg(50)); return x, nil },
			"PopFront":       func() (api.Ring, []api.Message) { x, _, _ := ring.PopFront(r); return x, nil },
			"PopBack":        func() (api.Ring, []api.Message) { x, _, _ := ring.PopBack(r); return x, nil },
			"Remove":         func() (api.Ring, []api.Message) { x, _, _ := ring.Remove(r, 1); return x, nil },
			"Detach nothing": func() (api.Ring, []api.Message) { x, l, _ := ring.Detach(r, 0); return x, l },
			"Detach":         func() (api.Ring, []api.Message) { x, l, _ := ring.Detach(r, 1); return x, l },
			"Detach all":     func() (api.Ring, []api.Message) { x, l, _ := ring.Detach(r, size); return x, l },
			"Absorb nothing": func() (api.Ring, []api.Message) { x, _ := ring.Absorb(r, nil); return x, nil },
			"Absorb":         func() (api.Ring, []api.Message) { x, _ := ring.Absorb(r, msgs(50)); return x, nil },
		} {
			first, firstList := f()
			second, secondList := f()
			if !same(first, second) || !slices.Equal(firstList, secondList) {
				t.Errorf("%s of %d: %+v, %+v, and then %+v, %+v", name, size, first, firstList, second, secondList)
			}
			cells := slices.Clone(second.Cells)
			clear(firstList)
			fill(first.Cells)
			fill(firstList[:cap(firstList)])
			if !slices.Equal(second.Cells, cells) {
				t.Errorf("%s of %d: two results share memory", name, size)
			}
			cellsAndList := slices.Concat(second.Cells, secondList)
			fill(room)
			if !slices.Equal(slices.Concat(second.Cells, secondList), cellsAndList) {
				t.Errorf("%s of %d: a result shares memory with the argument", name, size)
			}
			copy(room, before)
			fill(secondList)
			if !slices.Equal(second.Cells, cells) {
				t.Errorf("%s of %d: the list shares memory with the ring", name, size)
			}
			fill(second.Cells)
			if !slices.Equal(room, before) || r.Head != 3 || r.Size != size {
				t.Errorf("%s of %d: the argument is changed", name, size)
			}
			copy(room, before)
		}
	}
}

func fill(l []api.Message) {
	for i := range l {
		l[i] = msg(77)
	}
}

func TestNothingIsChanged(t *testing.T) {
	eachShape(func(capacity, head, size int) {
		room := append(laid(capacity, head, numbered(1, size)).Cells, msg(98), msg(99))
		r := api.Ring{Cells: room[:capacity], Head: head, Size: size}
		list := msgs(50, 51, 52)
		before := slices.Concat(room, list)
		ring.Validate(r)
		ring.List(r)
		ring.PushBack(r, msg(50))
		ring.PushFront(r, msg(50))
		ring.PopFront(r)
		ring.PopBack(r)
		ring.Remove(r, 1)
		for k := range size + 1 {
			ring.Detach(r, k)
		}
		for k := range len(list) + 1 {
			ring.Absorb(r, list[:k])
		}
		if !slices.Equal(slices.Concat(room, list), before) {
			t.Errorf("capacity %d, head %d, size %d: an argument was changed", capacity, head, size)
		}
	})
}

// What an earlier call returned does not change when its ring is used again.
func TestEarlierResultsStay(t *testing.T) {
	first, _ := ring.New(3)
	second, _ := ring.PushBack(first, msg(1))
	third, _ := ring.PushBack(second, msg(2))
	other, _ := ring.PushBack(second, msg(3))
	ring.PopFront(third)
	if !same(first, laid(3, 0, nil)) || !same(second, laid(3, 0, msgs(1))) || !same(third, laid(3, 0, msgs(1, 2))) || !same(other, laid(3, 0, msgs(1, 3))) {
		t.Errorf("rings: %+v, %+v, %+v, %+v", first, second, third, other)
	}
	fill(first.Cells)
	if again, _ := ring.New(3); !same(again, laid(3, 0, nil)) {
		t.Errorf("New(3) = %+v after an earlier result was changed", again)
	}
}
