package due_test

import (
	"cmp"
	"container/heap"
	"math"
	"math/rand/v2"
	"slices"
	"testing"

	"shardqueue/api"
	"shardqueue/due"
)

// extremes are numbers at which sums and comparisons are prone to go wrong.
var extremes = []int{math.MinInt, math.MinInt + 1, -1, 0, 1, 2, 3, api.MaxClock - 1, api.MaxClock, api.MaxClock + 1, 1 << 32, math.MaxInt - 1, math.MaxInt}

// extra is a valid element whose ID no heap of the tests has; junk is what foreign memory is filled with.
var (
	extra = api.Due{Deadline: 5, ID: 500}
	junk  = api.Due{Deadline: 77, ID: 77}
)

// at makes a heap of pairs of a deadline and an ID, in this order.
func at(pairs ...[2]int) []api.Due {
	h := []api.Due{}
	for _, p := range pairs {
		h = append(h, api.Due{Deadline: p[0], ID: p[1]})
	}
	return h
}

// rising returns size elements in ascending order, with the IDs from 1 on and the deadlines 10, 20 and so on.
func rising(size int) []api.Due {
	h := []api.Due{}
	for i := range size {
		h = append(h, api.Due{Deadline: 10 * (i + 1), ID: i + 1})
	}
	return h
}

// with returns the heap with another element i.
func with(h []api.Due, i int, d api.Due) []api.Due {
	h = slices.Clone(h)
	h[i] = d
	return h
}

// compare tells the order of two elements without the comparison of the package: a deadline counts more than all IDs.
func compare(a, b api.Due) int {
	return cmp.Compare(a.Deadline<<31+a.ID, b.Deadline<<31+b.ID)
}

// eachHeap calls f with each valid heap of size elements whose deadlines are less than deadlines and whose IDs are those from 1 on.
func eachHeap(size, deadlines int, f func(h []api.Due)) {
	h := make([]api.Due, size)
	used := make([]bool, size+1)
	var fill func(i int)
	fill = func(i int) {
		if i == size {
			f(slices.Clone(h))
			return
		}
		for id := 1; id <= size; id++ {
			for deadline := range deadlines {
				d := api.Due{Deadline: deadline, ID: id}
				if used[id] || i > 0 && compare(d, h[(i-1)/2]) < 0 {
					continue
				}
				h[i], used[id] = d, true
				fill(i + 1)
				used[id] = false
			}
		}
	}
	fill(0)
}

// eachSmallHeap calls f with the heaps of up to 7 elements: three levels, with all places of the last element.
func eachSmallHeap(f func(h []api.Due)) {
	for size := range 6 {
		eachHeap(size, 3, f)
	}
	eachHeap(6, 2, f)
	eachHeap(7, 1, f)
}

// broken is a heap that is not valid, with its error.
type broken struct {
	name string
	h    []api.Due
	want api.Errno
}

func brokenHeaps() []broken {
	all := []broken{
		{"13 elements", rising(13), api.ErrTooLong},
		{"14 elements", rising(14), api.ErrTooLong},
		{"1000 elements", rising(1000), api.ErrTooLong},
		{"13 zero elements", make([]api.Due, 13), api.ErrTooLong},
		{"13 elements with the same ID", slices.Repeat(rising(1), 13), api.ErrTooLong},
		{"13 elements in descending order", append(rising(12), api.Due{Deadline: 1, ID: 99}), api.ErrTooLong},

		{"a zero element", at([2]int{0, 0}), api.ErrRange},
		{"an ID of 0", at([2]int{5, 0}), api.ErrRange},
		{"an ID that is negative", at([2]int{5, -1}), api.ErrRange},
		{"an ID above MaxID", at([2]int{5, api.MaxID + 1}), api.ErrRange},
		{"a deadline that is negative", at([2]int{-1, 1}), api.ErrRange},
		{"a deadline above MaxClock", at([2]int{api.MaxClock + 1, 1}), api.ErrRange},
		{"a deadline above MaxClock at the end", at([2]int{1, 1}, [2]int{2, 2}, [2]int{api.MaxClock + 1, 3}), api.ErrRange},
		{"an ID above MaxID in the middle", at([2]int{1, 1}, [2]int{2, api.MaxID + 1}, [2]int{3, 3}), api.ErrRange},

		{"the same element twice", at([2]int{1, 1}, [2]int{1, 1}), api.ErrDuplicate},
		{"the same ID twice", at([2]int{1, 1}, [2]int{2, 1}), api.ErrDuplicate},
		{"the same ID at both ends", at([2]int{1, 5}, [2]int{2, 6}, [2]int{3, 7}, [2]int{4, 5}), api.ErrDuplicate},
		{"the same ID in two children", at([2]int{1, 5}, [2]int{2, 6}, [2]int{3, 6}), api.ErrDuplicate},

		{"a deadline that is less than that of the parent", at([2]int{2, 1}, [2]int{1, 2}), api.ErrOrder},
		{"a second child before its parent", at([2]int{2, 1}, [2]int{3, 2}, [2]int{1, 3}), api.ErrOrder},
		{"an ID that is less than that of the parent", at([2]int{2, 2}, [2]int{2, 1}), api.ErrOrder},
		{"an ID of a second child that is less than that of the parent", at([2]int{2, 2}, [2]int{2, 3}, [2]int{2, 1}), api.ErrOrder},
		{"before the parent, but not before the first one", at([2]int{1, 1}, [2]int{3, 2}, [2]int{1, 3}, [2]int{2, 4}), api.ErrOrder},

		{"the same ID twice, and then out of range", at([2]int{1, 1}, [2]int{1, 1}, [2]int{-1, 2}), api.ErrRange},
		{"not in order, and then out of range", at([2]int{2, 1}, [2]int{1, 2}, [2]int{3, 0}), api.ErrRange},
		{"not in order because of a negative deadline", at([2]int{0, 1}, [2]int{-1, 2}), api.ErrRange},
		{"the same ID that is out of range", at([2]int{1, 0}, [2]int{1, 0}), api.ErrRange},
		{"not in order, and then the same ID twice", at([2]int{2, 1}, [2]int{1, 2}, [2]int{3, 2}), api.ErrDuplicate},
		{"the same ID twice, not in order", at([2]int{2, 1}, [2]int{1, 1}), api.ErrDuplicate},
	}
	for _, n := range []int{math.MinInt, math.MinInt + 1, math.MaxInt - 1, math.MaxInt} {
		all = append(all,
			broken{"an extreme deadline", at([2]int{n, 1}), api.ErrRange},
			broken{"an extreme ID", at([2]int{1, n}), api.ErrRange},
			broken{"an extreme element behind another one", at([2]int{1, 1}, [2]int{n, n}), api.ErrRange})
	}
	return all
}

// P5.1

func TestValidate(t *testing.T) {
	for _, c := range brokenHeaps() {
		if e := due.Validate(c.h); e != c.want {
			t.Errorf("%s: Validate(%v) = %d, want %d", c.name, c.h, e, c.want)
		}
	}
}

func TestValidateAcceptsHeaps(t *testing.T) {
	for _, h := range [][]api.Due{
		nil,
		{},
		at([2]int{0, 1}),
		at([2]int{api.MaxClock, api.MaxID}),
		at([2]int{0, api.MaxID}, [2]int{api.MaxClock, 1}),
		at([2]int{7, 1}, [2]int{7, 2}, [2]int{7, 3}),
		at([2]int{7, 1}, [2]int{7, 3}, [2]int{7, 2}),
		at([2]int{1, 9}, [2]int{3, 8}, [2]int{2, 1}, [2]int{4, 7}, [2]int{3, 9999}),
		// The children of one element may be before those of another one.
		at([2]int{1, 1}, [2]int{5, 2}, [2]int{2, 3}, [2]int{6, 4}, [2]int{7, 5}, [2]int{3, 6}, [2]int{4, 7}),
	} {
		if e := due.Validate(h); e != api.OK {
			t.Errorf("Validate(%v) = %d", h, e)
		}
	}
	for size := range api.MaxCapacity + 1 {
		if e := due.Validate(rising(size)); e != api.OK {
			t.Errorf("Validate of %d elements = %d", size, e)
		}
	}
	eachSmallHeap(func(h []api.Due) {
		if e := due.Validate(h); e != api.OK {
			t.Errorf("Validate(%v) = %d", h, e)
		}
	})
}

// A single element that does not fit is found at each place of each size.
func TestValidateEachElement(t *testing.T) {
	for size := 1; size <= api.MaxCapacity; size++ {
		h := rising(size)
		for i, d := range h {
			for _, bad := range []api.Due{{Deadline: -1, ID: d.ID}, {Deadline: api.MaxClock + 1, ID: d.ID}, {Deadline: d.Deadline}, {Deadline: d.Deadline, ID: api.MaxID + 1}} {
				if e := due.Validate(with(h, i, bad)); e != api.ErrRange {
					t.Errorf("Validate(%v) = %d, want %d", with(h, i, bad), e, api.ErrRange)
				}
			}
			for j := range i {
				same := with(h, i, api.Due{Deadline: d.Deadline, ID: h[j].ID})
				if e := due.Validate(same); e != api.ErrDuplicate {
					t.Errorf("Validate(%v) = %d, want %d", same, e, api.ErrDuplicate)
				}
			}
			if i == 0 {
				continue
			}
			parent := h[(i-1)/2]
			for _, early := range []api.Due{{Deadline: parent.Deadline - 1, ID: d.ID}, {Deadline: 0, ID: d.ID}} {
				if e := due.Validate(with(h, i, early)); e != api.ErrOrder {
					t.Errorf("Validate(%v) = %d, want %d", with(h, i, early), e, api.ErrOrder)
				}
			}
			// Elements with the deadline of the parent are ordered by their IDs.
			equal := with(h, i, api.Due{Deadline: parent.Deadline, ID: 100})
			for _, c := range []struct {
				parent int
				want   api.Errno
			}{{99, api.OK}, {101, api.ErrOrder}} {
				equal[(i-1)/2].ID = c.parent
				// The other elements follow both of them, as far as they must.
				if e := due.Validate(equal[:i+1]); e != c.want {
					t.Errorf("Validate(%v) = %d, want %d", equal[:i+1], e, c.want)
				}
			}
		}
	}
}

// Every list of up to 4 elements that are in range is valid just if it has different IDs and no element is before its parent.
func TestValidateEachList(t *testing.T) {
	var elements []api.Due
	for deadline := range 3 {
		for id := 1; id <= 3; id++ {
			elements = append(elements, api.Due{Deadline: deadline, ID: id})
		}
	}
	var extend func(h []api.Due)
	extend = func(h []api.Due) {
		if e, want := due.Validate(h), errorInRange(h); e != want {
			t.Errorf("Validate(%v) = %d, want %d", h, e, want)
		}
		if len(h) == 4 {
			return
		}
		for _, d := range elements {
			extend(append(slices.Clone(h), d))
		}
	}
	extend(nil)
}

// errorInRange is the error of a list that is not too long and whose numbers are in range.
func errorInRange(h []api.Due) api.Errno {
	ids := map[int]bool{}
	for _, d := range h {
		ids[d.ID] = true
	}
	if len(ids) < len(h) {
		return api.ErrDuplicate
	}
	for i := range h {
		for _, child := range []int{2*i + 1, 2*i + 2} {
			if child < len(h) && compare(h[child], h[i]) < 0 {
				return api.ErrOrder
			}
		}
	}
	return api.OK
}

// The error of the heap comes first, whatever else is wrong.
func TestErrorOfTheHeapComesFirst(t *testing.T) {
	for _, c := range brokenHeaps() {
		for _, d := range []api.Due{extra, {Deadline: 1, ID: 1}, {}, {Deadline: -1, ID: 5}} {
			if h, e := due.Push(c.h, d); e != c.want || len(h) != 0 {
				t.Errorf("%s: Push of %v = %v, %d, want %d", c.name, d, h, e, c.want)
			}
		}
		if h, d, e := due.Pop(c.h); e != c.want || len(h) != 0 || d != (api.Due{}) {
			t.Errorf("%s: Pop = %v, %v, %d, want %d", c.name, h, d, e, c.want)
		}
		for _, id := range []int{1, 2, 5, 0, -1, 500} {
			if h, e := due.Remove(c.h, id); e != c.want || len(h) != 0 {
				t.Errorf("%s: Remove of %d = %v, %d, want %d", c.name, id, h, e, c.want)
			}
		}
	}
}

// P5.2

// The example of the chapter.
func TestPushThreeElements(t *testing.T) {
	var h []api.Due
	for i, want := range [][]api.Due{
		at([2]int{5, 1}),
		at([2]int{3, 2}, [2]int{5, 1}),
		at([2]int{3, 2}, [2]int{5, 1}, [2]int{4, 3}),
	} {
		d := at([2]int{5, 1}, [2]int{3, 2}, [2]int{4, 3})[i]
		next, e := due.Push(h, d)
		if e != api.OK || !slices.Equal(next, want) {
			t.Errorf("Push(%v, %v) = %v, %d, want %v", h, d, next, e, want)
		}
		h = next
	}
}

func TestPush(t *testing.T) {
	h := at([2]int{10, 4}, [2]int{20, 11}, [2]int{10, 6}, [2]int{20, 12}, [2]int{30, 13})
	for _, c := range []struct {
		name string
		d    api.Due
		want []api.Due
	}{
		{"it stays", api.Due{Deadline: 11, ID: 1}, append(slices.Clone(h), api.Due{Deadline: 11, ID: 1})},
		{"it stays because of its ID", api.Due{Deadline: 10, ID: 7}, append(slices.Clone(h), api.Due{Deadline: 10, ID: 7})},
		{"it rises by one level because of its ID", api.Due{Deadline: 10, ID: 5}, at([2]int{10, 4}, [2]int{20, 11}, [2]int{10, 5}, [2]int{20, 12}, [2]int{30, 13}, [2]int{10, 6})},
		{"it rises by two levels because of its ID", api.Due{Deadline: 10, ID: 3}, at([2]int{10, 3}, [2]int{20, 11}, [2]int{10, 4}, [2]int{20, 12}, [2]int{30, 13}, [2]int{10, 6})},
		{"it rises by two levels because of its deadline", api.Due{Deadline: 9, ID: 900}, at([2]int{9, 900}, [2]int{20, 11}, [2]int{10, 4}, [2]int{20, 12}, [2]int{30, 13}, [2]int{10, 6})},
		{"the least deadline and the greatest ID", api.Due{Deadline: 0, ID: api.MaxID}, at([2]int{0, api.MaxID}, [2]int{20, 11}, [2]int{10, 4}, [2]int{20, 12}, [2]int{30, 13}, [2]int{10, 6})},
		{"the greatest deadline and ID", api.Due{Deadline: api.MaxClock, ID: api.MaxID}, append(slices.Clone(h), api.Due{Deadline: api.MaxClock, ID: api.MaxID})},
	} {
		if got, e := due.Push(h, c.d); e != api.OK || !slices.Equal(got, c.want) {
			t.Errorf("%s: Push(%v, %v) = %v, %d, want %v", c.name, h, c.d, got, e, c.want)
		}
	}
}

func TestPushErrors(t *testing.T) {
	full := rising(api.MaxCapacity)
	for _, c := range []struct {
		name string
		h    []api.Due
		d    api.Due
		want api.Errno
	}{
		{"a zero element", nil, api.Due{}, api.ErrRange},
		{"an ID of 0", nil, api.Due{Deadline: 1}, api.ErrRange},
		{"an ID above MaxID", rising(3), api.Due{Deadline: 1, ID: api.MaxID + 1}, api.ErrRange},
		{"a deadline that is negative", rising(3), api.Due{Deadline: -1, ID: 9}, api.ErrRange},
		{"a deadline above MaxClock", rising(3), api.Due{Deadline: api.MaxClock + 1, ID: 9}, api.ErrRange},
		{"out of range and full", full, api.Due{Deadline: -1, ID: 99}, api.ErrRange},
		{"out of range and there already", rising(3), api.Due{Deadline: -1, ID: 2}, api.ErrRange},
		{"out of range, full and there already", full, api.Due{Deadline: api.MaxClock + 1, ID: 2}, api.ErrRange},
		{"full", full, api.Due{Deadline: 1, ID: 99}, api.ErrFull},
		{"full and there already", full, full[3], api.ErrFull},
		{"room for one, but there already", full[:11], full[3], api.ErrDuplicate},
		{"the same ID with another deadline", rising(3), api.Due{Deadline: 99, ID: 3}, api.ErrDuplicate},
		{"the ID of the first one", rising(1), api.Due{Deadline: 0, ID: 1}, api.ErrDuplicate},
		{"room for one", full[:11], api.Due{Deadline: 1, ID: 99}, api.OK},
	} {
		h, e := due.Push(c.h, c.d)
		if e != c.want || e != api.OK && len(h) != 0 {
			t.Errorf("%s: Push(%v, %v) = %v, %d, want %d", c.name, c.h, c.d, h, e, c.want)
		}
	}
	for _, n := range []int{math.MinInt, math.MinInt + 1, math.MaxInt - 1, math.MaxInt} {
		for _, d := range []api.Due{{Deadline: n, ID: 9}, {Deadline: 9, ID: n}, {Deadline: n, ID: n}} {
			if h, e := due.Push(rising(3), d); e != api.ErrRange || len(h) != 0 {
				t.Errorf("Push of %v = %v, %d, want %d", d, h, e, api.ErrRange)
			}
		}
	}
}

func TestPushOfEachIDThatIsThere(t *testing.T) {
	for size := range api.MaxCapacity {
		h := rising(size)
		for id := 1; id <= size; id++ {
			for _, deadline := range []int{0, 10 * id, 999} {
				if got, e := due.Push(h, api.Due{Deadline: deadline, ID: id}); e != api.ErrDuplicate || len(got) != 0 {
					t.Errorf("Push(%v, {%d %d}) = %v, %d, want %d", h, deadline, id, got, e, api.ErrDuplicate)
				}
			}
		}
	}
}

func TestPop(t *testing.T) {
	for _, c := range []struct {
		name    string
		h, want []api.Due
	}{
		{"the only one", at([2]int{4, 9}), nil},
		{"one of two", at([2]int{4, 9}, [2]int{5, 1}), at([2]int{5, 1})},
		{"the last one stays at the front", at([2]int{3, 2}, [2]int{5, 1}, [2]int{4, 3}), at([2]int{4, 3}, [2]int{5, 1})},
		{"down to the first child", at([2]int{1, 1}, [2]int{2, 2}, [2]int{3, 3}, [2]int{9, 4}), at([2]int{2, 2}, [2]int{9, 4}, [2]int{3, 3})},
		{"down to the second child", at([2]int{1, 1}, [2]int{3, 2}, [2]int{2, 3}, [2]int{9, 4}), at([2]int{2, 3}, [2]int{3, 2}, [2]int{9, 4})},
		{"down to the child with the less ID", at([2]int{1, 1}, [2]int{2, 3}, [2]int{2, 2}, [2]int{9, 4}), at([2]int{2, 2}, [2]int{2, 3}, [2]int{9, 4})},
		{"down to the only child", at([2]int{1, 1}, [2]int{2, 2}, [2]int{3, 3}, [2]int{5, 4}, [2]int{9, 5}), at([2]int{2, 2}, [2]int{5, 4}, [2]int{3, 3}, [2]int{9, 5})},
		{"down by one of two levels", at([2]int{1, 1}, [2]int{2, 2}, [2]int{6, 3}, [2]int{5, 4}, [2]int{4, 5}, [2]int{7, 6}, [2]int{6, 7}, [2]int{5, 8}), at([2]int{2, 2}, [2]int{4, 5}, [2]int{6, 3}, [2]int{5, 4}, [2]int{5, 8}, [2]int{7, 6}, [2]int{6, 7})},
		{"it stays because of its ID", at([2]int{1, 1}, [2]int{2, 4}, [2]int{2, 2}, [2]int{2, 5}, [2]int{2, 6}, [2]int{2, 3}), at([2]int{2, 2}, [2]int{2, 4}, [2]int{2, 3}, [2]int{2, 5}, [2]int{2, 6})},
	} {
		h, d, e := due.Pop(c.h)
		if e != api.OK || d != c.h[0] || !slices.Equal(h, c.want) {
			t.Errorf("%s: Pop(%v) = %v, %v, %d, want %v, %v", c.name, c.h, h, d, e, c.want, c.h[0])
		}
	}
}

func TestPopOfAnEmptyHeap(t *testing.T) {
	for _, empty := range [][]api.Due{nil, {}, rising(3)[:0]} {
		if h, d, e := due.Pop(empty); e != api.ErrMissing || len(h) != 0 || d != (api.Due{}) {
			t.Errorf("Pop = %v, %v, %d, want %d", h, d, e, api.ErrMissing)
		}
	}
}

func TestRemove(t *testing.T) {
	h := at([2]int{1, 1}, [2]int{10, 2}, [2]int{2, 3}, [2]int{20, 4}, [2]int{11, 5}, [2]int{3, 6}, [2]int{4, 7}, [2]int{30, 8}, [2]int{21, 9}, [2]int{12, 10}, [2]int{13, 11}, [2]int{5, 12})
	for _, c := range []struct {
		name string
		id   int
		want []api.Due
	}{
		{"the last one", 12, h[:11]},
		{"the last one rises by two levels from its own level", 11, at([2]int{1, 1}, [2]int{5, 12}, [2]int{2, 3}, [2]int{20, 4}, [2]int{10, 2}, [2]int{3, 6}, [2]int{4, 7}, [2]int{30, 8}, [2]int{21, 9}, [2]int{12, 10}, [2]int{11, 5})},
		{"the last one rises by two levels from another branch", 8, at([2]int{1, 1}, [2]int{5, 12}, [2]int{2, 3}, [2]int{10, 2}, [2]int{11, 5}, [2]int{3, 6}, [2]int{4, 7}, [2]int{20, 4}, [2]int{21, 9}, [2]int{12, 10}, [2]int{13, 11})},
		{"the last one rises by one level", 4, at([2]int{1, 1}, [2]int{5, 12}, [2]int{2, 3}, [2]int{10, 2}, [2]int{11, 5}, [2]int{3, 6}, [2]int{4, 7}, [2]int{30, 8}, [2]int{21, 9}, [2]int{12, 10}, [2]int{13, 11})},
		{"the last one sinks", 3, at([2]int{1, 1}, [2]int{10, 2}, [2]int{3, 6}, [2]int{20, 4}, [2]int{11, 5}, [2]int{5, 12}, [2]int{4, 7}, [2]int{30, 8}, [2]int{21, 9}, [2]int{12, 10}, [2]int{13, 11})},
		{"the last one stays", 2, at([2]int{1, 1}, [2]int{5, 12}, [2]int{2, 3}, [2]int{20, 4}, [2]int{11, 5}, [2]int{3, 6}, [2]int{4, 7}, [2]int{30, 8}, [2]int{21, 9}, [2]int{12, 10}, [2]int{13, 11})},
		{"the parent of the last one", 6, at([2]int{1, 1}, [2]int{10, 2}, [2]int{2, 3}, [2]int{20, 4}, [2]int{11, 5}, [2]int{5, 12}, [2]int{4, 7}, [2]int{30, 8}, [2]int{21, 9}, [2]int{12, 10}, [2]int{13, 11})},
		{"the first one", 1, at([2]int{2, 3}, [2]int{10, 2}, [2]int{3, 6}, [2]int{20, 4}, [2]int{11, 5}, [2]int{5, 12}, [2]int{4, 7}, [2]int{30, 8}, [2]int{21, 9}, [2]int{12, 10}, [2]int{13, 11})},
	} {
		if got, e := due.Remove(h, c.id); e != api.OK || !slices.Equal(got, c.want) {
			t.Errorf("%s: Remove(%v, %d) = %v, %d, want %v", c.name, h, c.id, got, e, c.want)
		}
	}
	if got, e := due.Remove(at([2]int{4, 9}), 9); e != api.OK || len(got) != 0 {
		t.Errorf("Remove of the only one = %v, %d", got, e)
	}
}

// An ID is looked for as it is, even if it is out of range.
func TestRemoveOfWhatIsMissing(t *testing.T) {
	for size := range api.MaxCapacity + 1 {
		for _, id := range append([]int{size + 1, 10, 20, api.MaxID, api.MaxID + 1, -size, 1 << 32, 1<<32 + 1}, extremes...) {
			if id >= 1 && id <= size {
				continue
			}
			if h, e := due.Remove(rising(size), id); e != api.ErrMissing || len(h) != 0 {
				t.Errorf("Remove of %d from %d elements = %v, %d, want %d", id, size, h, e, api.ErrMissing)
			}
		}
	}
}

// library is a heap of package container/heap, which sifts in the same way.
type library []api.Due

func (l library) Len() int           { return len(l) }
func (l library) Less(i, j int) bool { return compare(l[i], l[j]) < 0 }
func (l library) Swap(i, j int)      { l[i], l[j] = l[j], l[i] }
func (l *library) Push(x any)        { *l = append(*l, x.(api.Due)) }

func (l *library) Pop() any {
	last := len(*l) - 1
	d := (*l)[last]
	*l = (*l)[:last]
	return d
}

func pushed(h []api.Due, d api.Due) []api.Due {
	l := library(slices.Clone(h))
	heap.Push(&l, d)
	return l
}

func removed(h []api.Due, i int) []api.Due {
	l := library(slices.Clone(h))
	heap.Remove(&l, i)
	return l
}

// Each change of each small heap leaves exactly the elements that the library's heap has, at the same places.
func TestEachSmallHeap(t *testing.T) {
	eachSmallHeap(func(h []api.Due) {
		for deadline := range 3 {
			// An ID before all others, and one behind them.
			for _, d := range []api.Due{{Deadline: deadline, ID: 1}, {Deadline: deadline, ID: 99}} {
				room := slices.Clone(h)
				for i := range room {
					room[i].ID++
				}
				if got, e := due.Push(room, d); e != api.OK || !slices.Equal(got, pushed(room, d)) {
					t.Errorf("Push(%v, %v) = %v, %d, want %v", room, d, got, e, pushed(room, d))
				}
			}
		}
		for i, d := range h {
			if got, e := due.Remove(h, d.ID); e != api.OK || !slices.Equal(got, removed(h, i)) {
				t.Errorf("Remove(%v, %d) = %v, %d, want %v", h, d.ID, got, e, removed(h, i))
			}
		}
		if len(h) > 0 {
			if got, d, e := due.Pop(h); e != api.OK || d != h[0] || !slices.Equal(got, removed(h, 0)) {
				t.Errorf("Pop(%v) = %v, %v, %d, want %v", h, got, d, e, removed(h, 0))
			}
		}
	})
}

// Long runs of all functions with heaps of all sizes, each step compared with the library's heap.
func TestLongRuns(t *testing.T) {
	random := rand.New(rand.NewPCG(5, 2))
	sizes := map[int]int{}
	for run := range 40 {
		var h []api.Due
		span := []int{1, 3, 20, api.MaxClock}[run%4]
		pushes := 2 + run%5
		for range 1500 {
			h = step(t, random, h, span, pushes)
			sizes[len(h)]++
		}
	}
	for size := range api.MaxCapacity + 1 {
		if sizes[size] < 100 {
			t.Errorf("only %d steps with %d elements", sizes[size], size)
		}
	}
}

// step makes one change, of ten so many are pushes, with deadlines up to span. It returns what the library's heap has then.
func step(t *testing.T, random *rand.Rand, h []api.Due, span, pushes int) []api.Due {
	want, wantErr := h, api.ErrMissing
	var got []api.Due
	var e api.Errno
	id := 1 + random.IntN(15)
	i := slices.IndexFunc(h, func(d api.Due) bool { return d.ID == id })
	switch kind := random.IntN(10); {
	case kind < pushes:
		d := api.Due{Deadline: random.IntN(span + 1), ID: id}
		got, e = due.Push(h, d)
		if len(h) == api.MaxCapacity {
			wantErr = api.ErrFull
		} else if i >= 0 {
			wantErr = api.ErrDuplicate
		} else {
			want, wantErr = pushed(h, d), api.OK
		}
	case kind < 9:
		got, e = due.Remove(h, id)
		if i >= 0 {
			want, wantErr = removed(h, i), api.OK
		}
	default:
		var d api.Due
		got, d, e = due.Pop(h)
		if len(h) > 0 {
			want, wantErr = removed(h, 0), api.OK
			if d != slices.MinFunc(h, compare) {
				t.Errorf("Pop(%v) gives %v", h, d)
			}
		}
	}
	if e != wantErr || e == api.OK && !slices.Equal(got, want) || e != api.OK && len(got) != 0 {
		t.Errorf("a step from %v = %v, %d, want %v, %d", h, got, e, want, wantErr)
	}
	if v := due.Validate(got); v != api.OK {
		t.Errorf("a step from %v = %v, which has the error %d", h, got, v)
	}
	return want
}

// P5.3

func TestUntil(t *testing.T) {
	h := at([2]int{3, 9}, [2]int{5, 1}, [2]int{3, 10}, [2]int{7, 4}, [2]int{5, 2}, [2]int{4, 30}, [2]int{3, 11})
	for _, c := range []struct {
		now  int
		want []int
	}{
		{math.MinInt, nil}, {-1, nil}, {0, nil}, {2, nil},
		{3, []int{9, 10, 11}},
		{4, []int{9, 10, 11, 30}},
		{5, []int{9, 10, 11, 30, 1, 2}}, {6, []int{9, 10, 11, 30, 1, 2}},
		{7, []int{9, 10, 11, 30, 1, 2, 4}}, {8, []int{9, 10, 11, 30, 1, 2, 4}},
		{api.MaxClock, []int{9, 10, 11, 30, 1, 2, 4}}, {math.MaxInt, []int{9, 10, 11, 30, 1, 2, 4}},
	} {
		if got := due.Until(h, c.now); !slices.Equal(got, c.want) {
			t.Errorf("Until(%v, %d) = %v, want %v", h, c.now, got, c.want)
		}
	}
}

func TestUntilAtTheEndsOfTheRanges(t *testing.T) {
	h := at([2]int{0, api.MaxID}, [2]int{api.MaxClock, 1})
	for _, c := range []struct {
		now  int
		want []int
	}{
		{-1, nil},
		{0, []int{api.MaxID}}, {api.MaxClock - 1, []int{api.MaxID}},
		{api.MaxClock, []int{api.MaxID, 1}}, {api.MaxClock + 1, []int{api.MaxID, 1}},
	} {
		if got := due.Until(h, c.now); !slices.Equal(got, c.want) {
			t.Errorf("Until(%v, %d) = %v, want %v", h, c.now, got, c.want)
		}
	}
	for _, now := range extremes {
		if got := due.Until(nil, now); len(got) != 0 {
			t.Errorf("Until of an empty heap at %d = %v", now, got)
		}
	}
}

func TestUntilOfAHeapThatIsNotValid(t *testing.T) {
	for _, c := range brokenHeaps() {
		for _, now := range append([]int{100, 100000}, extremes...) {
			if got := due.Until(c.h, now); len(got) != 0 {
				t.Errorf("%s: Until(%v, %d) = %v", c.name, c.h, now, got)
			}
		}
	}
}

func TestUntilOfEachSmallHeap(t *testing.T) {
	eachSmallHeap(func(h []api.Due) {
		for now := -1; now <= 3; now++ {
			if got := due.Until(h, now); !slices.Equal(got, until(h, now)) {
				t.Errorf("Until(%v, %d) = %v, want %v", h, now, got, until(h, now))
			}
		}
	})
	random := rand.New(rand.NewPCG(5, 3))
	for range 2000 {
		var h []api.Due
		for _, id := range random.Perm(api.MaxCapacity) {
			h = pushed(h, api.Due{Deadline: random.IntN(6), ID: 1 + id})
		}
		now := random.IntN(7) - 1
		if got := due.Until(h, now); !slices.Equal(got, until(h, now)) {
			t.Errorf("Until(%v, %d) = %v, want %v", h, now, got, until(h, now))
		}
	}
}

// until looks for the elements deadline by deadline and ID by ID.
func until(h []api.Due, now int) []int {
	var ids []int
	for deadline := 0; deadline <= now; deadline++ {
		for id := 1; id <= api.MaxCapacity; id++ {
			if slices.Contains(h, api.Due{Deadline: deadline, ID: id}) {
				ids = append(ids, id)
			}
		}
	}
	return ids
}

// P5.4

// eachOrder calls f with each order of the elements.
func eachOrder(l []api.Due, f func(l []api.Due)) {
	var swap func(i int)
	swap = func(i int) {
		if i == len(l) {
			f(slices.Clone(l))
			return
		}
		for j := i; j < len(l); j++ {
			l[i], l[j] = l[j], l[i]
			swap(i + 1)
			l[i], l[j] = l[j], l[i]
		}
	}
	swap(0)
}

// popAll pushes the elements in their order, and pops them all.
func popAll(t *testing.T, l []api.Due) []api.Due {
	var h, popped []api.Due
	for _, d := range l {
		var e api.Errno
		if h, e = due.Push(h, d); e != api.OK {
			t.Errorf("Push of %v of %v: %d", d, l, e)
		}
	}
	for range l {
		next, d, e := due.Pop(h)
		if e != api.OK || slices.ContainsFunc(next, func(other api.Due) bool { return compare(other, d) <= 0 }) {
			t.Errorf("Pop(%v) = %v, %v, %d", h, next, d, e)
		}
		h, popped = next, append(popped, d)
	}
	if _, _, e := due.Pop(h); e != api.ErrMissing {
		t.Errorf("%v: %d elements are left", l, len(h))
	}
	return popped
}

func TestPopAllOfEachOrder(t *testing.T) {
	for _, l := range [][]api.Due{
		rising(0), rising(1), rising(2), rising(6),
		at([2]int{2, 1}, [2]int{1, 2}),
		at([2]int{1, 4}, [2]int{1, 5}, [2]int{2, 1}, [2]int{2, 2}, [2]int{2, 3}, [2]int{3, 6}, [2]int{4, 7}),
		at([2]int{9, 1}, [2]int{9, 2}, [2]int{9, 3}, [2]int{9, 4}, [2]int{9, 5}, [2]int{9, 6}),
	} {
		want := slices.SortedFunc(slices.Values(l), compare)
		eachOrder(l, func(l []api.Due) {
			if got := popAll(t, l); !slices.Equal(got, want) {
				t.Errorf("%v is popped as %v, want %v", l, got, want)
			}
		})
	}
}

func TestPopAllOfFullHeaps(t *testing.T) {
	random := rand.New(rand.NewPCG(5, 4))
	for _, span := range []int{1, 2, 5, 100, api.MaxClock + 1} {
		for range 300 {
			var l []api.Due
			for _, id := range random.Perm(api.MaxCapacity) {
				l = append(l, api.Due{Deadline: random.IntN(span), ID: 1 + id})
			}
			if got, want := popAll(t, l), slices.SortedFunc(slices.Values(l), compare); !slices.Equal(got, want) {
				t.Errorf("%v is popped as %v, want %v", l, got, want)
			}
		}
	}
}

// Rules

// R1 and R4: every function returns for all arguments, and with an error nothing else.
func TestAllArguments(t *testing.T) {
	for _, n := range extremes {
		for _, m := range extremes {
			d := api.Due{Deadline: n, ID: m}
			for _, h := range [][]api.Due{nil, {d}, {d, d}, {{Deadline: 1, ID: 2}, d}, rising(12), append(rising(11), d), rising(13), slices.Repeat([]api.Due{d}, 1000)} {
				callAll(t, h, d)
			}
		}
	}
}

func callAll(t *testing.T, h []api.Due, d api.Due) {
	e := due.Validate(h)
	if l := due.Until(h, d.Deadline); len(l) > len(h) || e != api.OK && len(l) != 0 {
		t.Errorf("Until(%v, %d) = %v", h, d.Deadline, l)
	}
	a, e := due.Push(h, d)
	check(t, "Push", h, a, e, +1)
	a, first, e := due.Pop(h)
	check(t, "Pop", h, a, e, -1)
	if e != api.OK && first != (api.Due{}) {
		t.Errorf("Pop(%v) gives %v and %d", h, first, e)
	}
	a, e = due.Remove(h, d.ID)
	check(t, "Remove", h, a, e, -1)
}

// check tests that a result is valid and has that many more elements, or is nothing with an error.
func check(t *testing.T, name string, h, got []api.Due, e api.Errno, more int) {
	if e != api.OK && len(got) != 0 {
		t.Errorf("%s(%v) = %v, %d", name, h, got, e)
	}
	if e == api.OK && (due.Validate(got) != api.OK || len(got) != len(h)+more) {
		t.Errorf("%s(%v) = %v", name, h, got)
	}
}

// R2: no function changes its arguments, and results are new memory.
func TestNothingIsShared(t *testing.T) {
	for size := range api.MaxCapacity + 1 {
		// The room behind the elements would be written to by an append in place.
		room := append(rising(size), junk, junk)
		h := room[:size]
		before := slices.Clone(room)
		for name, f := range map[string]func() []api.Due{
			"Push at the end":   func() []api.Due { x, _ := due.Push(h, api.Due{Deadline: 999, ID: 99}); return x },
			"Push at the front": func() []api.Due { x, _ := due.Push(h, api.Due{Deadline: 0, ID: 99}); return x },
			"Pop":               func() []api.Due { x, _, _ := due.Pop(h); return x },
			"Remove the first":  func() []api.Due { x, _ := due.Remove(h, 1); return x },
			"Remove the second": func() []api.Due { x, _ := due.Remove(h, 2); return x },
			"Remove the last":   func() []api.Due { x, _ := due.Remove(h, size); return x },
		} {
			first, second := f(), f()
			result := slices.Clone(second)
			if !slices.Equal(first, second) {
				t.Errorf("%s of %d: %v, and then %v", name, size, first, second)
			}
			fill(first[:cap(first)])
			if !slices.Equal(second, result) || !slices.Equal(room, before) {
				t.Errorf("%s of %d: a result shares memory with another one or with the argument", name, size)
			}
			fill(room)
			if !slices.Equal(second, result) {
				t.Errorf("%s of %d: a result shares memory with the argument", name, size)
			}
			copy(room, before)
		}
	}
}

func fill(h []api.Due) {
	for i := range h {
		h[i] = junk
	}
}

func TestUntilReturnsNewMemory(t *testing.T) {
	h := rising(12)
	first, second := due.Until(h, 60), due.Until(h, 60)
	clear(first[:cap(first)])
	if want := []int{1, 2, 3, 4, 5, 6}; !slices.Equal(second, want) || !slices.Equal(h, rising(12)) {
		t.Errorf("Until = %v, want %v, of %v", second, want, h)
	}
}

func TestNothingIsChanged(t *testing.T) {
	eachSmallHeap(func(h []api.Due) {
		room := append(slices.Clone(h), junk, junk)
		before := slices.Clone(room)
		h = room[:len(h)]
		due.Validate(h)
		due.Push(h, api.Due{Deadline: 0, ID: 99})
		due.Push(h, api.Due{Deadline: 99, ID: 99})
		due.Pop(h)
		for id := range len(h) + 2 {
			due.Remove(h, id)
		}
		for now := range 3 {
			due.Until(h, now)
		}
		if !slices.Equal(room, before) {
			t.Errorf("%v was changed to %v", before, room)
		}
	})
}

// What an earlier call returned does not change when its heap is used again.
func TestEarlierResultsStay(t *testing.T) {
	first, _ := due.Push(nil, api.Due{Deadline: 5, ID: 1})
	second, _ := due.Push(first, api.Due{Deadline: 3, ID: 2})
	third, _ := due.Push(second, api.Due{Deadline: 4, ID: 3})
	other, _ := due.Push(second, api.Due{Deadline: 2, ID: 4})
	fourth, _, _ := due.Pop(third)
	due.Push(fourth, api.Due{Deadline: 1, ID: 5})
	due.Remove(third, 1)
	for i, c := range []struct{ got, want []api.Due }{
		{first, at([2]int{5, 1})},
		{second, at([2]int{3, 2}, [2]int{5, 1})},
		{third, at([2]int{3, 2}, [2]int{5, 1}, [2]int{4, 3})},
		{other, at([2]int{2, 4}, [2]int{5, 1}, [2]int{3, 2})},
		{fourth, at([2]int{4, 3}, [2]int{5, 1})},
	} {
		if !slices.Equal(c.got, c.want) {
			t.Errorf("heap %d: %v, want %v", i+1, c.got, c.want)
		}
	}
}

// R2 and R3: a result depends neither on whether an empty list is nil nor on the room behind a list.
func TestEqualArguments(t *testing.T) {
	for size := range api.MaxCapacity {
		h := rising(size)
		wide := append(make([]api.Due, 0, 64), h...)
		narrow := slices.Clip(slices.Clone(h))
		for _, d := range []api.Due{{Deadline: 0, ID: 99}, {Deadline: 999, ID: 99}} {
			a, aErr := due.Push(wide, d)
			b, bErr := due.Push(narrow, d)
			if !slices.Equal(a, b) || aErr != bErr {
				t.Errorf("Push of %v to %v = %v, %d or %v, %d", d, h, a, aErr, b, bErr)
			}
		}
	}
	fromNil, nilErr := due.Push(nil, extra)
	fromEmpty, emptyErr := due.Push([]api.Due{}, extra)
	if !slices.Equal(fromNil, []api.Due{extra}) || !slices.Equal(fromEmpty, fromNil) || nilErr != api.OK || emptyErr != api.OK {
		t.Errorf("Push to nothing = %v, %d or %v, %d", fromNil, nilErr, fromEmpty, emptyErr)
	}
}
