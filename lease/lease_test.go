package lease_test

import (
	"cmp"
	"math"
	"math/rand/v2"
	"slices"
	"strings"
	"testing"

	"shardqueue/api"
	"shardqueue/due"
	"shardqueue/lease"
)

// extremes are numbers at which sums and comparisons are prone to go wrong.
var extremes = []int{math.MinInt, math.MinInt + 1, -1, 0, 1, 2, 3, api.MaxGen, api.MaxClock - 1, api.MaxClock, api.MaxClock + 1, 1 << 32, math.MaxInt - 1, math.MaxInt}

// junk is what foreign memory is filled with.
var (
	junkLease = api.Lease{Msg: api.Message{ID: 77, Gen: 7, Body: "junk"}, Deadline: 77}
	junkDue   = api.Due{Deadline: 77, ID: 77}
)

// msg returns a valid message in which no field is zero, and which differs from those with other IDs in several of them.
func msg(id int) api.Message {
	return api.Message{ID: id, Route: id % 60000, Epoch: 2, Count: 3, Gen: 100 + id%1000, Sent: 128 + id%1000, Body: strings.Repeat("b", id%15+1)}
}

// held returns a lease of the message with an ID.
func held(id, deadline int) api.Lease {
	return api.Lease{Msg: msg(id), Deadline: deadline}
}

// leases makes leases of pairs of an ID and a deadline, in this order.
func leases(pairs ...[2]int) []api.Lease {
	l := []api.Lease{}
	for _, p := range pairs {
		l = append(l, held(p[0], p[1]))
	}
	return l
}

// heap makes a heap of pairs of an ID and a deadline, in this order.
func heap(pairs ...[2]int) []api.Due {
	h := []api.Due{}
	for _, p := range pairs {
		h = append(h, api.Due{Deadline: p[1], ID: p[0]})
	}
	return h
}

// table makes the table with this heap of pairs of an ID and a deadline.
func table(pairs ...[2]int) api.Table {
	l := leases(pairs...)
	slices.SortFunc(l, func(a, b api.Lease) int { return cmp.Compare(a.Msg.ID, b.Msg.ID) })
	return api.Table{L: l, Heap: heap(pairs...)}
}

// rising returns the table of size leases with the IDs 1, 2 and so on and the deadlines 10, 20 and so on.
func rising(size int) api.Table {
	pairs := [][2]int{}
	for i := range size {
		pairs = append(pairs, [2]int{i + 1, 10 * (i + 1)})
	}
	return table(pairs...)
}

// withLease returns the table with another lease i, and its heap as it was.
func withLease(t api.Table, i int, l api.Lease) api.Table {
	t.L = slices.Clone(t.L)
	t.L[i] = l
	return t
}

// withDue returns the table with another element i of its heap.
func withDue(t api.Table, i int, d api.Due) api.Table {
	t.Heap = slices.Clone(t.Heap)
	t.Heap[i] = d
	return t
}

func same(a, b api.Table) bool {
	return slices.Equal(a.L, b.L) && slices.Equal(a.Heap, b.Heap)
}

func clone(t api.Table) api.Table {
	return api.Table{L: slices.Clone(t.L), Heap: slices.Clone(t.Heap)}
}

func isEmpty(t api.Table) bool {
	return len(t.L) == 0 && len(t.Heap) == 0
}

// compare tells the order of two elements of a heap: a deadline counts more than all IDs.
func compare(a, b api.Due) int {
	return cmp.Compare(a.Deadline<<31+a.ID, b.Deadline<<31+b.ID)
}

// sorted returns the elements of a heap in ascending order.
func sorted(h []api.Due) []api.Due {
	return slices.SortedFunc(slices.Values(h), compare)
}

// eachTable calls f with each valid table of size leases with the IDs from 1 on whose deadlines are less than deadlines, with each order of its heap.
func eachTable(size, deadlines int, f func(x api.Table)) {
	var grow func(pairs [][2]int)
	grow = func(pairs [][2]int) {
		if due.Validate(heap(pairs...)) != api.OK {
			return
		}
		if len(pairs) == size {
			f(table(pairs...))
			return
		}
		for id := 1; id <= size; id++ {
			for deadline := range deadlines {
				grow(append(slices.Clone(pairs), [2]int{id, deadline}))
			}
		}
	}
	grow(nil)
}

func eachSmallTable(f func(x api.Table)) {
	for size := range 5 {
		eachTable(size, 3, f)
	}
	eachTable(5, 2, f)
	eachTable(6, 1, f)
}

// faulty is a lease that is not valid by itself, with its error.
type faulty struct {
	name string
	l    api.Lease
	want api.Errno
}

// changed returns the lease of the message with an ID until 5, changed by f.
func changed(id int, f func(l *api.Lease)) api.Lease {
	l := held(id, 5)
	f(&l)
	return l
}

// faultyLeases are made of leases of the message with this ID.
func faultyLeases(id int) []faulty {
	long := strings.Repeat("b", api.MaxBody+1)
	all := []faulty{
		{"a zero lease", api.Lease{}, api.ErrRange},
		{"a zero message", api.Lease{Deadline: 5}, api.ErrRange},
		{"an ID of 0", changed(id, func(l *api.Lease) { l.Msg.ID = 0 }), api.ErrRange},
		{"an ID above MaxID", changed(id, func(l *api.Lease) { l.Msg.ID = api.MaxID + 1 }), api.ErrRange},
		{"a route that is no route", changed(id, func(l *api.Lease) { l.Msg.Route = api.Space }), api.ErrRange},
		{"an epoch above MaxEpoch", changed(id, func(l *api.Lease) { l.Msg.Epoch = api.MaxEpoch + 1 }), api.ErrRange},
		{"a count above MaxLimit", changed(id, func(l *api.Lease) { l.Msg.Count = api.MaxLimit + 1 }), api.ErrRange},
		{"a generation above MaxGen", changed(id, func(l *api.Lease) { l.Msg.Gen = api.MaxGen + 1 }), api.ErrRange},
		{"a generation less than the count", changed(id, func(l *api.Lease) { l.Msg.Gen = 2 }), api.ErrRange},
		{"a generation of 0 less than the count", changed(id, func(l *api.Lease) { l.Msg.Gen = 0 }), api.ErrRange},
		{"a generation that is negative", changed(id, func(l *api.Lease) { l.Msg.Count, l.Msg.Gen = 0, -1 }), api.ErrRange},
		{"sent at no time", changed(id, func(l *api.Lease) { l.Msg.Sent = -1 }), api.ErrRange},
		{"a body that is too long", changed(id, func(l *api.Lease) { l.Msg.Body = long }), api.ErrTooLong},
		{"never leased", changed(id, func(l *api.Lease) { l.Msg.Count, l.Msg.Gen = 0, 0 }), api.ErrState},
		{"a deadline that is negative", held(id, -1), api.ErrRange},
		{"a deadline above MaxClock", held(id, api.MaxClock+1), api.ErrRange},

		{"never leased, and its body is too long", changed(id, func(l *api.Lease) { l.Msg.Count, l.Msg.Gen, l.Msg.Body = 0, 0, long }), api.ErrTooLong},
		{"never leased, and its route is no route", changed(id, func(l *api.Lease) { l.Msg.Count, l.Msg.Gen, l.Msg.Route = 0, 0, -1 }), api.ErrRange},
		{"a body that is too long, and a deadline that is negative", changed(id, func(l *api.Lease) { l.Msg.Body, l.Deadline = long, -1 }), api.ErrTooLong},
		{"never leased, until -1", changed(id, func(l *api.Lease) { l.Msg.Count, l.Msg.Gen, l.Deadline = 0, 0, -1 }), api.ErrState},
		{"never leased, until after MaxClock", changed(id, func(l *api.Lease) { l.Msg.Count, l.Msg.Gen, l.Deadline = 0, 0, api.MaxClock+1 }), api.ErrState},
	}
	for _, n := range []int{math.MinInt, math.MinInt + 1, math.MaxInt - 1, math.MaxInt} {
		all = append(all,
			faulty{"an extreme deadline", held(id, n), api.ErrRange},
			faulty{"an extreme generation", changed(id, func(l *api.Lease) { l.Msg.Gen = n }), api.ErrRange})
	}
	return all
}

// broken is a table that is not valid, with its error.
type broken struct {
	name string
	x    api.Table
	want api.Errno
}

// brokenLists are tables in which leases are wrong.
func brokenLists() []broken {
	all := []broken{
		{"13 leases", rising(13), api.ErrTooLong},
		{"14 leases", rising(14), api.ErrTooLong},
		{"1000 leases", rising(1000), api.ErrTooLong},
		{"13 leases with nothing in the heap", api.Table{L: rising(13).L}, api.ErrTooLong},
		{"13 leases with 12 in the heap", api.Table{L: rising(13).L, Heap: rising(12).Heap}, api.ErrTooLong},
		{"13 zero leases", api.Table{L: make([]api.Lease, 13)}, api.ErrTooLong},
		{"13 leases, and the first one was never leased", withLease(rising(13), 0, api.Lease{Msg: api.Message{ID: 1}}), api.ErrTooLong},
		{"13 leases in descending order", api.Table{L: slices.Repeat(rising(1).L, 13), Heap: rising(1).Heap}, api.ErrTooLong},

		{"the same lease twice", api.Table{L: leases([2]int{7, 5}, [2]int{7, 5}), Heap: heap([2]int{7, 5})}, api.ErrOrder},
		{"the same lease twice, in the heap, too", api.Table{L: leases([2]int{7, 5}, [2]int{7, 5}), Heap: heap([2]int{7, 5}, [2]int{7, 5})}, api.ErrOrder},
		{"the same ID with another deadline", api.Table{L: leases([2]int{7, 5}, [2]int{7, 6}), Heap: heap([2]int{7, 5}, [2]int{7, 6})}, api.ErrOrder},
		{"descending IDs", api.Table{L: leases([2]int{7, 5}, [2]int{6, 5}), Heap: heap([2]int{6, 5}, [2]int{7, 5})}, api.ErrOrder},
		{"an ID less than that before, but not than the first one", api.Table{L: leases([2]int{5, 5}, [2]int{7, 5}, [2]int{6, 5}), Heap: heap([2]int{5, 5}, [2]int{6, 5}, [2]int{7, 5})}, api.ErrOrder},
		{"the first ID once more at the end", api.Table{L: leases([2]int{5, 5}, [2]int{7, 5}, [2]int{5, 5}), Heap: heap([2]int{5, 5}, [2]int{7, 5})}, api.ErrOrder},

		{"until -1 and not in order", api.Table{L: leases([2]int{7, 5}, [2]int{6, -1})}, api.ErrRange},
		{"never leased and not in order", api.Table{L: []api.Lease{held(7, 5), {Msg: api.Message{ID: 6}}}}, api.ErrState},
		{"not in order, and then until -1", api.Table{L: leases([2]int{7, 5}, [2]int{6, 5}, [2]int{8, -1})}, api.ErrOrder},
		{"not in order, and then no message", api.Table{L: append(leases([2]int{7, 5}, [2]int{6, 5}), api.Lease{})}, api.ErrOrder},
		{"until -1, and then never leased", api.Table{L: []api.Lease{held(7, -1), {Msg: api.Message{ID: 8}}}}, api.ErrRange},
		{"never leased, and then until -1", api.Table{L: []api.Lease{{Msg: api.Message{ID: 7}}, held(8, -1)}}, api.ErrState},
		{"never leased, and then a zero lease", api.Table{L: []api.Lease{{Msg: api.Message{ID: 7}}, {}}}, api.ErrState},

		{"not in order, and 13 in the heap", api.Table{L: leases([2]int{7, 5}, [2]int{6, 5}), Heap: rising(13).Heap}, api.ErrOrder},
		{"never leased, and 13 in the heap", api.Table{L: []api.Lease{{Msg: api.Message{ID: 7}}}, Heap: rising(13).Heap}, api.ErrState},
		{"never leased, and a heap that is out of range", api.Table{L: []api.Lease{{Msg: api.Message{ID: 7}}}, Heap: heap([2]int{0, 5})}, api.ErrState},
		{"until -1, and a heap that is not in order", api.Table{L: leases([2]int{7, -1}), Heap: heap([2]int{7, 5}, [2]int{6, 5})}, api.ErrRange},
		{"until -1, in the heap, too", table([2]int{7, -1}), api.ErrRange},
	}
	for _, f := range faultyLeases(7) {
		all = append(all,
			broken{f.name, api.Table{L: []api.Lease{f.l}, Heap: heap([2]int{7, 5})}, f.want},
			broken{f.name + ", behind another one", api.Table{L: []api.Lease{held(6, 4), f.l}, Heap: heap([2]int{6, 4}, [2]int{7, 5})}, f.want},
			broken{f.name + ", before another one", api.Table{L: []api.Lease{f.l, held(8, 6)}, Heap: heap([2]int{7, 5}, [2]int{8, 6})}, f.want})
	}
	return all
}

// brokenHeaps are tables with valid leases, in which the heap is wrong.
func brokenHeaps() []broken {
	two := leases([2]int{7, 30}, [2]int{9, 20})
	return []broken{
		{"13 elements in the heap", api.Table{L: rising(12).L, Heap: rising(13).Heap}, api.ErrTooLong},
		{"13 elements for nothing", api.Table{Heap: rising(13).Heap}, api.ErrTooLong},
		{"13 zero elements", api.Table{L: two, Heap: make([]api.Due, 13)}, api.ErrTooLong},
		{"1000 elements", api.Table{L: two, Heap: rising(1000).Heap}, api.ErrTooLong},
		{"an element until -1", api.Table{L: two, Heap: heap([2]int{9, -1}, [2]int{7, 30})}, api.ErrRange},
		{"an element until after MaxClock", api.Table{L: two, Heap: heap([2]int{9, 20}, [2]int{7, api.MaxClock + 1})}, api.ErrRange},
		{"an element with the ID 0", api.Table{L: two, Heap: heap([2]int{0, 20}, [2]int{7, 30})}, api.ErrRange},
		{"a zero element for nothing", api.Table{Heap: heap([2]int{0, 0})}, api.ErrRange},
		{"an element twice", api.Table{L: two, Heap: heap([2]int{9, 20}, [2]int{9, 20})}, api.ErrDuplicate},
		{"an element with two deadlines", api.Table{L: two, Heap: heap([2]int{9, 20}, [2]int{7, 30}, [2]int{9, 30})}, api.ErrDuplicate},
		{"not in order", api.Table{L: two, Heap: heap([2]int{7, 30}, [2]int{9, 20})}, api.ErrOrder},
		{"not in order because of the IDs", api.Table{L: leases([2]int{7, 20}, [2]int{9, 20}), Heap: heap([2]int{9, 20}, [2]int{7, 20})}, api.ErrOrder},
		{"not in order, and with another deadline", api.Table{L: two, Heap: heap([2]int{7, 31}, [2]int{9, 20})}, api.ErrOrder},
		{"an element twice for nothing", api.Table{Heap: heap([2]int{9, 20}, [2]int{9, 20})}, api.ErrDuplicate},

		{"nothing in the heap", api.Table{L: two}, api.ErrState},
		{"the heap lacks one", api.Table{L: two, Heap: heap([2]int{9, 20})}, api.ErrState},
		{"the heap lacks the other one", api.Table{L: two, Heap: heap([2]int{7, 30})}, api.ErrState},
		{"an element too many", api.Table{L: two, Heap: heap([2]int{9, 20}, [2]int{7, 30}, [2]int{8, 40})}, api.ErrState},
		{"an element for nothing", api.Table{Heap: heap([2]int{9, 20})}, api.ErrState},
		{"12 elements for nothing", api.Table{Heap: rising(12).Heap}, api.ErrState},
		{"12 elements for 11 leases", api.Table{L: rising(11).L, Heap: rising(12).Heap}, api.ErrState},
		{"11 elements for 12 leases", api.Table{L: rising(12).L, Heap: rising(11).Heap}, api.ErrState},
		{"an earlier deadline", api.Table{L: two, Heap: heap([2]int{9, 19}, [2]int{7, 30})}, api.ErrState},
		{"a later deadline", api.Table{L: two, Heap: heap([2]int{9, 20}, [2]int{7, 31})}, api.ErrState},
		{"another ID", api.Table{L: two, Heap: heap([2]int{9, 20}, [2]int{8, 30})}, api.ErrState},
		{"the deadlines of each other", api.Table{L: two, Heap: heap([2]int{7, 20}, [2]int{9, 30})}, api.ErrState},
		{"the deadline of the other one twice", api.Table{L: two, Heap: heap([2]int{7, 20}, [2]int{9, 20})}, api.ErrState},
	}
}

func brokenTables() []broken {
	return append(brokenLists(), brokenHeaps()...)
}

// P6.1

func TestValidate(t *testing.T) {
	for _, c := range brokenTables() {
		if e := lease.Validate(c.x); e != c.want {
			t.Errorf("%s: Validate(%+v) = %d, want %d", c.name, c.x, e, c.want)
		}
	}
}

func TestValidateAcceptsTables(t *testing.T) {
	for name, x := range map[string]api.Table{
		"nil":                        {},
		"empty lists":                {L: []api.Lease{}, Heap: []api.Due{}},
		"the least numbers":          table([2]int{1, 0}),
		"the greatest numbers":       table([2]int{api.MaxID, api.MaxClock}),
		"both ends":                  table([2]int{api.MaxID, 0}, [2]int{1, api.MaxClock}),
		"the same deadline":          table([2]int{4, 7}, [2]int{5, 7}, [2]int{6, 7}),
		"another heap":               table([2]int{4, 7}, [2]int{6, 7}, [2]int{5, 7}),
		"descending deadlines":       table([2]int{6, 1}, [2]int{5, 2}, [2]int{4, 3}),
		"the least generation":       {L: []api.Lease{{Msg: api.Message{ID: 5, Gen: 1}, Deadline: 3}}, Heap: heap([2]int{5, 3})},
		"the greatest generation":    {L: []api.Lease{{Msg: api.Message{ID: 5, Count: 8, Gen: api.MaxGen}, Deadline: 3}}, Heap: heap([2]int{5, 3})},
		"a deadline before the send": {L: []api.Lease{{Msg: api.Message{ID: 5, Gen: 1, Sent: 9}, Deadline: 3}}, Heap: heap([2]int{5, 3})},
	} {
		if e := lease.Validate(x); e != api.OK {
			t.Errorf("%s: Validate(%+v) = %d", name, x, e)
		}
	}
	for size := range api.MaxCapacity + 1 {
		if e := lease.Validate(rising(size)); e != api.OK {
			t.Errorf("Validate of %d leases = %d", size, e)
		}
	}
	eachSmallTable(func(x api.Table) {
		if e := lease.Validate(x); e != api.OK {
			t.Errorf("Validate(%+v) = %d", x, e)
		}
	})
}

// A single lease or element that does not fit is found at each place of each size.
func TestValidateEachPlace(t *testing.T) {
	for size := 1; size <= api.MaxCapacity; size++ {
		x := rising(size)
		for i := range size {
			for _, f := range faultyLeases(i + 1) {
				if e := lease.Validate(withLease(x, i, f.l)); e != f.want {
					t.Errorf("%s at %d of %d: Validate = %d, want %d", f.name, i, size, e, f.want)
				}
			}
			for j := range i {
				for _, y := range []api.Table{withLease(x, i, x.L[j]), withLease(x, j, x.L[i])} {
					if e := lease.Validate(y); e != api.ErrOrder {
						t.Errorf("Validate(%+v) = %d, want %d", y, e, api.ErrOrder)
					}
				}
			}
			for _, c := range []struct {
				d    api.Due
				want api.Errno
			}{
				{api.Due{Deadline: 10*i + 11, ID: i + 1}, api.ErrState},
				{api.Due{Deadline: 10*i + 9, ID: i + 1}, api.ErrState},
				{api.Due{Deadline: 10*i + 10, ID: 99}, api.ErrState},
				{api.Due{Deadline: 10*i + 10, ID: -1}, api.ErrRange},
				{api.Due{Deadline: -1, ID: i + 1}, api.ErrRange},
			} {
				if y := withDue(x, i, c.d); lease.Validate(y) != c.want {
					t.Errorf("Validate(%+v) = %d, want %d", y, lease.Validate(y), c.want)
				}
			}
			y := clone(x)
			y.L = slices.Delete(y.L, i, i+1)
			if e := lease.Validate(y); e != api.ErrState {
				t.Errorf("Validate(%+v) = %d, want %d", y, e, api.ErrState)
			}
		}
	}
}

// Of two leases with an error, that of the first one counts.
func TestValidateTheFirstLeaseFirst(t *testing.T) {
	x := rising(6)
	for i := range 6 {
		for j := i + 1; j < 6; j++ {
			for _, f := range faultyLeases(i + 1) {
				for _, g := range faultyLeases(j + 1) {
					if e := lease.Validate(withLease(withLease(x, i, f.l), j, g.l)); e != f.want {
						t.Errorf("%s at %d and %s at %d: Validate = %d, want %d", f.name, i, g.name, j, e, f.want)
					}
				}
			}
		}
	}
}

// Every list of up to 3 leases, with every list of up to 3 elements, is valid just if the IDs of the leases ascend and the list is a heap of their deadlines.
func TestValidateEachList(t *testing.T) {
	pairs := [][2]int{{1, 0}, {1, 1}, {2, 0}, {2, 1}, {3, 0}, {3, 1}}
	var all [][][2]int
	var extend func(l [][2]int)
	extend = func(l [][2]int) {
		all = append(all, l)
		if len(l) == 3 {
			return
		}
		for _, p := range pairs {
			extend(append(slices.Clone(l), p))
		}
	}
	extend(nil)
	for _, l := range all {
		for _, h := range all {
			x := api.Table{L: leases(l...), Heap: heap(h...)}
			if e, want := lease.Validate(x), errorOfPairs(l, h); e != want {
				t.Errorf("Validate(%+v) = %d, want %d", x, e, want)
			}
		}
	}
}

// errorOfPairs is the error of a table with leases and elements that are in range.
func errorOfPairs(l, h [][2]int) api.Errno {
	for i := 1; i < len(l); i++ {
		if l[i][0] <= l[i-1][0] {
			return api.ErrOrder
		}
	}
	if e := due.Validate(heap(h...)); e != api.OK {
		return e
	}
	if !slices.Equal(sorted(heap(h...)), sorted(heap(l...))) {
		return api.ErrState
	}
	return api.OK
}

// The error of the table comes first, whatever else is wrong.
func TestErrorOfTheTableComesFirst(t *testing.T) {
	for _, c := range brokenTables() {
		for _, l := range []api.Lease{held(500, 5), held(7, 5), held(7, -1), {}, {Msg: api.Message{ID: 9}}, {Deadline: math.MaxInt}} {
			if x, e := lease.Grant(c.x, l.Msg, l.Deadline); e != c.want || !isEmpty(x) {
				t.Errorf("%s: Grant of %+v = %+v, %d, want %d", c.name, l, x, e, c.want)
			}
		}
		for _, id := range []int{1, 2, 5, 6, 7, 8, 9, 0, -1, 500} {
			if x, m, e := lease.Release(c.x, id); e != c.want || !isEmpty(x) || m != (api.Message{}) {
				t.Errorf("%s: Release of %d = %+v, %v, %d, want %d", c.name, id, x, m, e, c.want)
			}
			for _, deadline := range []int{5, 20, -1, api.MaxClock + 1} {
				if x, e := lease.Extend(c.x, id, deadline); e != c.want || !isEmpty(x) {
					t.Errorf("%s: Extend of %d until %d = %+v, %d, want %d", c.name, id, deadline, x, e, c.want)
				}
			}
		}
	}
}

func TestATableThatIsNotValidIsEmpty(t *testing.T) {
	for _, c := range brokenTables() {
		for _, id := range append([]int{5, 6, 7, 8, 9}, extremes...) {
			if l, ok := lease.Find(c.x, id); ok || l != (api.Lease{}) {
				t.Errorf("%s: Find of %d = %+v, %v", c.name, id, l, ok)
			}
		}
		for _, now := range append([]int{5, 20, 30, 100000}, extremes...) {
			for _, epoch := range []int{math.MinInt, 0, 2, 3, math.MaxInt} {
				if ids := lease.Lapsed(c.x, now, epoch); len(ids) != 0 {
					t.Errorf("%s: Lapsed at %d in %d = %v", c.name, now, epoch, ids)
				}
			}
		}
	}
}

// P6.2

func TestGrant(t *testing.T) {
	x := table([2]int{20, 10}, [2]int{40, 30}, [2]int{30, 20})
	for _, c := range []struct {
		name         string
		id, deadline int
		want         api.Table
	}{
		{"first by its ID, last by its deadline", 10, 50, api.Table{L: leases([2]int{10, 50}, [2]int{20, 10}, [2]int{30, 20}, [2]int{40, 30}), Heap: heap([2]int{20, 10}, [2]int{40, 30}, [2]int{30, 20}, [2]int{10, 50})}},
		{"between them by its ID, first by its deadline", 25, 5, api.Table{L: leases([2]int{20, 10}, [2]int{25, 5}, [2]int{30, 20}, [2]int{40, 30}), Heap: heap([2]int{25, 5}, [2]int{20, 10}, [2]int{30, 20}, [2]int{40, 30})}},
		{"between them by its ID and its deadline", 35, 20, api.Table{L: leases([2]int{20, 10}, [2]int{30, 20}, [2]int{35, 20}, [2]int{40, 30}), Heap: heap([2]int{20, 10}, [2]int{35, 20}, [2]int{30, 20}, [2]int{40, 30})}},
		{"last by its ID and its deadline", 50, 30, api.Table{L: leases([2]int{20, 10}, [2]int{30, 20}, [2]int{40, 30}, [2]int{50, 30}), Heap: heap([2]int{20, 10}, [2]int{40, 30}, [2]int{30, 20}, [2]int{50, 30})}},
		{"before one with the same deadline by its ID", 39, 30, api.Table{L: leases([2]int{20, 10}, [2]int{30, 20}, [2]int{39, 30}, [2]int{40, 30}), Heap: heap([2]int{20, 10}, [2]int{39, 30}, [2]int{30, 20}, [2]int{40, 30})}},
		{"the greatest ID and the least deadline", api.MaxID, 0, api.Table{L: leases([2]int{20, 10}, [2]int{30, 20}, [2]int{40, 30}, [2]int{api.MaxID, 0}), Heap: heap([2]int{api.MaxID, 0}, [2]int{20, 10}, [2]int{30, 20}, [2]int{40, 30})}},
		{"the least ID and the greatest deadline", 1, api.MaxClock, api.Table{L: leases([2]int{1, api.MaxClock}, [2]int{20, 10}, [2]int{30, 20}, [2]int{40, 30}), Heap: heap([2]int{20, 10}, [2]int{40, 30}, [2]int{30, 20}, [2]int{1, api.MaxClock})}},
	} {
		if got, e := lease.Grant(x, msg(c.id), c.deadline); e != api.OK || !same(got, c.want) {
			t.Errorf("%s: Grant = %+v, %d, want %+v", c.name, got, e, c.want)
		}
	}
}

// The message is kept as it is.
func TestGrantOfAnyMessage(t *testing.T) {
	for _, m := range []api.Message{
		{ID: 1, Gen: 1},
		{ID: 1, Count: 1, Gen: 1},
		{ID: 1, Gen: api.MaxGen},
		{ID: api.MaxID, Route: api.Space - 1, Epoch: api.MaxEpoch, Count: api.MaxLimit, Gen: api.MaxGen, Sent: api.MaxClock, Body: strings.Repeat("\xff", api.MaxBody)},
		msg(9),
	} {
		for _, deadline := range []int{0, 1, api.MaxClock - 1, api.MaxClock} {
			l := api.Lease{Msg: m, Deadline: deadline}
			x, e := lease.Grant(api.Table{}, m, deadline)
			if want := (api.Table{L: []api.Lease{l}, Heap: heap([2]int{m.ID, deadline})}); e != api.OK || !same(x, want) {
				t.Errorf("Grant of %+v = %+v, %d, want %+v", l, x, e, want)
			}
			if got, ok := lease.Find(x, m.ID); !ok || got != l {
				t.Errorf("Find = %+v, %v, want %+v", got, ok, l)
			}
			if y, got, e := lease.Release(x, m.ID); e != api.OK || got != m || !isEmpty(y) {
				t.Errorf("Release = %+v, %+v, %d, want %+v", y, got, e, m)
			}
		}
	}
}

func TestGrantErrors(t *testing.T) {
	full := rising(api.MaxCapacity)
	for _, c := range []struct {
		name     string
		x        api.Table
		m        api.Message
		deadline int
		want     api.Errno
	}{
		{"full", full, msg(99), 5, api.ErrFull},
		{"full, and there is one with this ID", full, msg(4), 5, api.ErrFull},
		{"full, until -1", full, msg(99), -1, api.ErrRange},
		{"full, never leased", full, api.Message{ID: 99}, 5, api.ErrState},
		{"full, a body that is too long", full, api.Message{ID: 99, Gen: 1, Body: strings.Repeat("b", 17)}, 5, api.ErrTooLong},
		{"there is one with this ID", rising(3), msg(2), 5, api.ErrDuplicate},
		{"there is another message with this ID", rising(3), api.Message{ID: 2, Gen: 1}, 5, api.ErrDuplicate},
		{"there is the same lease", rising(3), msg(2), 20, api.ErrDuplicate},
		{"there is one with this ID, until -1", rising(3), msg(2), -1, api.ErrRange},
		{"there is one with this ID, until after MaxClock", rising(3), msg(2), api.MaxClock + 1, api.ErrRange},
		{"there is one with this ID, never leased", rising(3), api.Message{ID: 2}, 5, api.ErrState},
		{"room for one", rising(11), msg(99), 5, api.OK},
		{"room for one, and there is one with this ID", rising(11), msg(11), 5, api.ErrDuplicate},
	} {
		x, e := lease.Grant(c.x, c.m, c.deadline)
		if e != c.want || e != api.OK && !isEmpty(x) {
			t.Errorf("%s: Grant(%+v, %+v, %d) = %+v, %d, want %d", c.name, c.x, c.m, c.deadline, x, e, c.want)
		}
	}
	for size := range api.MaxCapacity + 1 {
		for _, id := range []int{1, size, 99} {
			for _, f := range faultyLeases(max(id, 1)) {
				if x, e := lease.Grant(rising(size), f.l.Msg, f.l.Deadline); e != f.want || !isEmpty(x) {
					t.Errorf("%s: Grant to %d leases = %+v, %d, want %d", f.name, size, x, e, f.want)
				}
			}
		}
	}
}

func TestGrantOfEachIDThatIsThere(t *testing.T) {
	for size := range api.MaxCapacity {
		for id := 1; id <= size; id++ {
			for _, deadline := range []int{0, 10 * id, 999, api.MaxClock} {
				if x, e := lease.Grant(rising(size), msg(id), deadline); e != api.ErrDuplicate || !isEmpty(x) {
					t.Errorf("Grant of %d to %d leases = %+v, %d, want %d", id, size, x, e, api.ErrDuplicate)
				}
			}
		}
	}
}

func TestFind(t *testing.T) {
	for size := range api.MaxCapacity + 1 {
		x := rising(size)
		for id := -1; id <= size+2; id++ {
			l, ok := lease.Find(x, id)
			if id < 1 || id > size {
				if ok || l != (api.Lease{}) {
					t.Errorf("Find of %d among %d = %+v, %v", id, size, l, ok)
				}
			} else if !ok || l != held(id, 10*id) {
				t.Errorf("Find of %d among %d = %+v, %v, want %+v", id, size, l, ok, held(id, 10*id))
			}
		}
	}
	x := table([2]int{api.MaxID, 0}, [2]int{20, 10}, [2]int{1, api.MaxClock})
	for _, c := range []struct {
		id   int
		want api.Lease
	}{
		{1, held(1, api.MaxClock)}, {20, held(20, 10)}, {api.MaxID, held(api.MaxID, 0)},
		{0, api.Lease{}}, {2, api.Lease{}}, {10, api.Lease{}}, {19, api.Lease{}}, {21, api.Lease{}}, {-20, api.Lease{}}, {api.MaxID - 1, api.Lease{}}, {api.MaxID + 1, api.Lease{}}, {1<<32 + 20, api.Lease{}}, {math.MinInt, api.Lease{}}, {math.MaxInt, api.Lease{}},
	} {
		if l, ok := lease.Find(x, c.id); l != c.want || ok != (c.want != api.Lease{}) {
			t.Errorf("Find of %d = %+v, %v, want %+v", c.id, l, ok, c.want)
		}
	}
}

func TestRelease(t *testing.T) {
	x := table([2]int{20, 10}, [2]int{40, 30}, [2]int{30, 20}, [2]int{10, 40})
	for _, c := range []struct {
		id   int
		want api.Table
	}{
		{10, api.Table{L: leases([2]int{20, 10}, [2]int{30, 20}, [2]int{40, 30}), Heap: heap([2]int{20, 10}, [2]int{40, 30}, [2]int{30, 20})}},
		{20, api.Table{L: leases([2]int{10, 40}, [2]int{30, 20}, [2]int{40, 30}), Heap: heap([2]int{30, 20}, [2]int{40, 30}, [2]int{10, 40})}},
		{30, api.Table{L: leases([2]int{10, 40}, [2]int{20, 10}, [2]int{40, 30}), Heap: heap([2]int{20, 10}, [2]int{40, 30}, [2]int{10, 40})}},
		{40, api.Table{L: leases([2]int{10, 40}, [2]int{20, 10}, [2]int{30, 20}), Heap: heap([2]int{20, 10}, [2]int{10, 40}, [2]int{30, 20})}},
	} {
		if got, m, e := lease.Release(x, c.id); e != api.OK || m != msg(c.id) || !same(got, c.want) {
			t.Errorf("Release of %d = %+v, %+v, %d, want %+v", c.id, got, m, e, c.want)
		}
	}
}

func TestExtend(t *testing.T) {
	x := table([2]int{20, 10}, [2]int{40, 30}, [2]int{30, 20})
	for _, c := range []struct {
		name         string
		id, deadline int
		want         api.Table
	}{
		// The heap has the order of a removal and a push, even if the element would not have to move.
		{"the same deadline", 40, 30, api.Table{L: leases([2]int{20, 10}, [2]int{30, 20}, [2]int{40, 30}), Heap: heap([2]int{20, 10}, [2]int{30, 20}, [2]int{40, 30})}},
		{"a later deadline", 40, 31, api.Table{L: leases([2]int{20, 10}, [2]int{30, 20}, [2]int{40, 31}), Heap: heap([2]int{20, 10}, [2]int{30, 20}, [2]int{40, 31})}},
		{"an earlier deadline", 40, 15, api.Table{L: leases([2]int{20, 10}, [2]int{30, 20}, [2]int{40, 15}), Heap: heap([2]int{20, 10}, [2]int{30, 20}, [2]int{40, 15})}},
		{"the first one, as early as another one", 20, 20, api.Table{L: leases([2]int{20, 20}, [2]int{30, 20}, [2]int{40, 30}), Heap: heap([2]int{20, 20}, [2]int{40, 30}, [2]int{30, 20})}},
		{"the first one until after all others", 20, 50, api.Table{L: leases([2]int{20, 50}, [2]int{30, 20}, [2]int{40, 30}), Heap: heap([2]int{30, 20}, [2]int{40, 30}, [2]int{20, 50})}},
		{"the last one of the heap", 30, 40, api.Table{L: leases([2]int{20, 10}, [2]int{30, 40}, [2]int{40, 30}), Heap: heap([2]int{20, 10}, [2]int{40, 30}, [2]int{30, 40})}},
		{"the least deadline", 40, 0, api.Table{L: leases([2]int{20, 10}, [2]int{30, 20}, [2]int{40, 0}), Heap: heap([2]int{40, 0}, [2]int{30, 20}, [2]int{20, 10})}},
		{"the greatest deadline", 20, api.MaxClock, api.Table{L: leases([2]int{20, api.MaxClock}, [2]int{30, 20}, [2]int{40, 30}), Heap: heap([2]int{30, 20}, [2]int{40, 30}, [2]int{20, api.MaxClock})}},
	} {
		if got, e := lease.Extend(x, c.id, c.deadline); e != api.OK || !same(got, c.want) {
			t.Errorf("%s: Extend of %d until %d = %+v, %d, want %+v", c.name, c.id, c.deadline, got, e, c.want)
		}
	}
	// A table that is full has room for the lease that it has.
	full := rising(api.MaxCapacity)
	for id := 1; id <= api.MaxCapacity; id++ {
		x, e := lease.Extend(full, id, 15)
		if l, ok := lease.Find(x, id); e != api.OK || !ok || l != held(id, 15) || len(x.L) != api.MaxCapacity || len(x.Heap) != api.MaxCapacity {
			t.Errorf("Extend of %d = %+v, %d", id, x, e)
		}
	}
}

func TestExtendUntilNoTime(t *testing.T) {
	for size := 1; size <= api.MaxCapacity; size++ {
		for id := 1; id <= size; id++ {
			for _, deadline := range []int{-1, api.MaxClock + 1, math.MinInt, math.MinInt + 1, math.MaxInt - 1, math.MaxInt} {
				if x, e := lease.Extend(rising(size), id, deadline); e != api.ErrRange || !isEmpty(x) {
					t.Errorf("Extend of %d among %d until %d = %+v, %d, want %d", id, size, deadline, x, e, api.ErrRange)
				}
			}
		}
	}
}

// An ID is looked for as it is, even if it is out of range, and before the deadline is examined.
func TestMissing(t *testing.T) {
	for size := range api.MaxCapacity + 1 {
		for _, id := range append([]int{size + 1, 10, 20, api.MaxID, api.MaxID + 1, -size, 1<<32 + 1}, extremes...) {
			if id >= 1 && id <= size {
				continue
			}
			if x, m, e := lease.Release(rising(size), id); e != api.ErrMissing || !isEmpty(x) || m != (api.Message{}) {
				t.Errorf("Release of %d among %d = %+v, %+v, %d, want %d", id, size, x, m, e, api.ErrMissing)
			}
			for _, deadline := range append([]int{5, 10 * size}, extremes...) {
				if x, e := lease.Extend(rising(size), id, deadline); e != api.ErrMissing || !isEmpty(x) {
					t.Errorf("Extend of %d among %d until %d = %+v, %d, want %d", id, size, deadline, x, e, api.ErrMissing)
				}
			}
		}
	}
	gap := table([2]int{20, 10}, [2]int{40, 30}, [2]int{30, 20})
	for _, id := range []int{1, 10, 19, 21, 29, 31, 39, 41, 50} {
		if x, m, e := lease.Release(gap, id); e != api.ErrMissing || !isEmpty(x) || m != (api.Message{}) {
			t.Errorf("Release of %d = %+v, %+v, %d, want %d", id, x, m, e, api.ErrMissing)
		}
		if x, e := lease.Extend(gap, id, 5); e != api.ErrMissing || !isEmpty(x) {
			t.Errorf("Extend of %d = %+v, %d, want %d", id, x, e, api.ErrMissing)
		}
	}
}

// model keeps the leases in a map, and the heap with the functions of due.
type model struct {
	l map[int]api.Lease
	h []api.Due
}

func modelOf(x api.Table) model {
	m := model{map[int]api.Lease{}, slices.Clone(x.Heap)}
	for _, l := range x.L {
		m.l[l.Msg.ID] = l
	}
	return m
}

func (m model) table() api.Table {
	x := api.Table{Heap: slices.Clone(m.h)}
	for _, l := range m.l {
		x.L = append(x.L, l)
	}
	slices.SortFunc(x.L, func(a, b api.Lease) int { return a.Msg.ID - b.Msg.ID })
	return x
}

func (m *model) grant(l api.Lease) api.Errno {
	if len(m.l) == api.MaxCapacity {
		return api.ErrFull
	}
	if _, ok := m.l[l.Msg.ID]; ok {
		return api.ErrDuplicate
	}
	m.l[l.Msg.ID] = l
	m.h, _ = due.Push(m.h, api.Due{Deadline: l.Deadline, ID: l.Msg.ID})
	return api.OK
}

func (m *model) release(id int) (api.Message, api.Errno) {
	l, ok := m.l[id]
	if !ok {
		return api.Message{}, api.ErrMissing
	}
	delete(m.l, id)
	m.h, _ = due.Remove(m.h, id)
	return l.Msg, api.OK
}

func (m *model) extend(id, deadline int) api.Errno {
	msg, e := m.release(id)
	if e != api.OK {
		return e
	}
	return m.grant(api.Lease{Msg: msg, Deadline: deadline})
}

// lapsed looks for the leases deadline by deadline and ID by ID.
func (m model) lapsed(now, epoch int) []int {
	var ids []int
	for deadline := 0; deadline <= min(now, 100); deadline++ {
		for id := 1; id <= 20; id++ {
			if l, ok := m.l[id]; ok && l.Deadline == deadline && l.Msg.Epoch >= epoch {
				ids = append(ids, id)
			}
		}
	}
	return ids
}

// Each change of each small table leaves exactly the leases and the heap that the model has.
func TestEachSmallTable(t *testing.T) {
	eachSmallTable(func(x api.Table) {
		for id := range len(x.L) + 2 {
			m := modelOf(x)
			message, want := m.release(id)
			got, released, e := lease.Release(x, id)
			if e != want || released != message || e == api.OK && !same(got, m.table()) {
				t.Errorf("Release(%+v, %d) = %+v, %+v, %d, want %+v, %d", x, id, got, released, e, m.table(), want)
			}
			for deadline := range 4 {
				m := modelOf(x)
				want := m.extend(id, deadline)
				if got, e := lease.Extend(x, id, deadline); e != want || e == api.OK && !same(got, m.table()) {
					t.Errorf("Extend(%+v, %d, %d) = %+v, %d, want %+v, %d", x, id, deadline, got, e, m.table(), want)
				}
				if id == 0 {
					continue
				}
				m = modelOf(x)
				want = m.grant(held(id, deadline))
				if got, e := lease.Grant(x, msg(id), deadline); e != want || e == api.OK && !same(got, m.table()) {
					t.Errorf("Grant(%+v, %d, %d) = %+v, %d, want %+v, %d", x, id, deadline, got, e, m.table(), want)
				}
			}
		}
	})
}

// Long runs of all functions with tables of all sizes, each step compared with the model.
func TestLongRuns(t *testing.T) {
	random := rand.New(rand.NewPCG(6, 2))
	sizes := map[int]int{}
	for run := range 40 {
		var x api.Table
		span := []int{1, 3, 20, 90}[run%4]
		grants := 2 + run%5
		for range 1000 {
			x = step(t, random, x, span, grants)
			sizes[len(x.L)]++
		}
	}
	for size := range api.MaxCapacity + 1 {
		if sizes[size] < 100 {
			t.Errorf("only %d steps with %d leases", sizes[size], size)
		}
	}
}

// step makes one change, of ten so many are grants, with deadlines up to span. It returns what the model has then.
func step(t *testing.T, random *rand.Rand, x api.Table, span, grants int) api.Table {
	m := modelOf(x)
	id, deadline := 1+random.IntN(16), random.IntN(span+1)
	var got api.Table
	var e, want api.Errno
	switch kind := random.IntN(10); {
	case kind < grants:
		l := held(id, deadline)
		l.Msg.Epoch, l.Msg.Gen = random.IntN(3), 3+random.IntN(9)
		got, e = lease.Grant(x, l.Msg, deadline)
		want = m.grant(l)
	case kind < 8:
		var message, wanted api.Message
		got, message, e = lease.Release(x, id)
		if wanted, want = m.release(id); message != wanted {
			t.Errorf("Release(%+v, %d) gives %+v, want %+v", x, id, message, wanted)
		}
	default:
		got, e = lease.Extend(x, id, deadline)
		want = m.extend(id, deadline)
	}
	if e != want || e == api.OK && !same(got, m.table()) || e != api.OK && !isEmpty(got) {
		t.Errorf("a step from %+v = %+v, %d, want %+v, %d", x, got, e, m.table(), want)
	}
	if v := lease.Validate(got); v != api.OK {
		t.Errorf("a step from %+v = %+v, which has the error %d", x, got, v)
	}
	lookAround(t, m, deadline, random.IntN(4))
	return m.table()
}

// lookAround compares what Find and Lapsed return with the model.
func lookAround(t *testing.T, m model, now, epoch int) {
	x := m.table()
	for id := range 18 {
		want, there := m.l[id]
		if l, ok := lease.Find(x, id); l != want || ok != there {
			t.Errorf("Find(%+v, %d) = %+v, %v, want %+v, %v", x, id, l, ok, want, there)
		}
	}
	if ids := lease.Lapsed(x, now, epoch); !slices.Equal(ids, m.lapsed(now, epoch)) {
		t.Errorf("Lapsed(%+v, %d, %d) = %v, want %v", x, now, epoch, ids, m.lapsed(now, epoch))
	}
}

// P6.3

// The example of the chapter.
func TestTwoLeases(t *testing.T) {
	x, e := lease.Grant(api.Table{}, msg(7), 30)
	if e != api.OK {
		t.Errorf("Grant = %d", e)
	}
	if x, e = lease.Grant(x, msg(9), 20); e != api.OK {
		t.Errorf("Grant = %d", e)
	}
	for _, c := range []struct {
		now  int
		want []int
	}{{0, nil}, {19, nil}, {20, []int{9}}, {29, []int{9}}, {30, []int{9, 7}}, {31, []int{9, 7}}} {
		if got := lease.Lapsed(x, c.now, 0); !slices.Equal(got, c.want) {
			t.Errorf("Lapsed at %d = %v, want %v", c.now, got, c.want)
		}
	}
}

// inEpochs gives the messages of a table other epochs, in the order of their IDs.
func inEpochs(x api.Table, epochs ...int) api.Table {
	x = clone(x)
	for i, epoch := range epochs {
		x.L[i].Msg.Epoch = epoch
	}
	return x
}

func TestLapsed(t *testing.T) {
	// In ascending order of the deadlines and the IDs: 9, 10, 11, 30, 1, 2, 4.
	x := table([2]int{9, 3}, [2]int{1, 5}, [2]int{10, 3}, [2]int{4, 7}, [2]int{2, 5}, [2]int{30, 4}, [2]int{11, 3})
	// Of the messages 1, 2, 4, 9, 10, 11, 30.
	y := inEpochs(x, 3, 1, 2, 3, 1, 2, 0)
	for _, c := range []struct {
		x          api.Table
		now, epoch int
		want       []int
	}{
		{x, math.MinInt, 0, nil}, {x, -1, 0, nil}, {x, 0, 0, nil}, {x, 2, 0, nil},
		{x, 3, 0, []int{9, 10, 11}},
		{x, 4, 0, []int{9, 10, 11, 30}},
		{x, 5, 0, []int{9, 10, 11, 30, 1, 2}}, {x, 6, 0, []int{9, 10, 11, 30, 1, 2}},
		{x, 7, 0, []int{9, 10, 11, 30, 1, 2, 4}}, {x, 8, 0, []int{9, 10, 11, 30, 1, 2, 4}},
		{x, api.MaxClock, 0, []int{9, 10, 11, 30, 1, 2, 4}}, {x, math.MaxInt, 0, []int{9, 10, 11, 30, 1, 2, 4}},

		{x, 100, 2, []int{9, 10, 11, 30, 1, 2, 4}}, {x, 100, 3, nil}, {x, 100, math.MaxInt, nil}, {x, 100, math.MinInt, []int{9, 10, 11, 30, 1, 2, 4}},

		{y, 100, -1, []int{9, 10, 11, 30, 1, 2, 4}}, {y, 100, 0, []int{9, 10, 11, 30, 1, 2, 4}},
		{y, 100, 1, []int{9, 10, 11, 1, 2, 4}},
		{y, 100, 2, []int{9, 11, 1, 4}},
		{y, 100, 3, []int{9, 1}},
		{y, 100, 4, nil}, {y, 100, api.MaxEpoch, nil}, {y, 100, api.MaxEpoch + 1, nil},
		{y, 3, 2, []int{9, 11}}, {y, 4, 1, []int{9, 10, 11}}, {y, 5, 3, []int{9, 1}}, {y, 2, 0, nil},
	} {
		if got := lease.Lapsed(c.x, c.now, c.epoch); !slices.Equal(got, c.want) {
			t.Errorf("Lapsed at %d in %d = %v, want %v", c.now, c.epoch, got, c.want)
		}
	}
}

func TestLapsedAtTheEndsOfTheRanges(t *testing.T) {
	x := inEpochs(table([2]int{api.MaxID, 0}, [2]int{1, api.MaxClock}), api.MaxEpoch, 0)
	for _, c := range []struct {
		now, epoch int
		want       []int
	}{
		{-1, 0, nil},
		{0, 0, []int{api.MaxID}}, {api.MaxClock - 1, 0, []int{api.MaxID}},
		{api.MaxClock, 0, []int{api.MaxID, 1}}, {api.MaxClock + 1, 0, []int{api.MaxID, 1}},
		{api.MaxClock, 1, []int{1}}, {api.MaxClock, api.MaxEpoch, []int{1}}, {api.MaxClock, api.MaxEpoch + 1, nil},
		{api.MaxClock - 1, 1, nil},
	} {
		if got := lease.Lapsed(x, c.now, c.epoch); !slices.Equal(got, c.want) {
			t.Errorf("Lapsed at %d in %d = %v, want %v", c.now, c.epoch, got, c.want)
		}
	}
	for _, now := range extremes {
		for _, epoch := range extremes {
			if got := lease.Lapsed(api.Table{}, now, epoch); len(got) != 0 {
				t.Errorf("Lapsed of no leases at %d in %d = %v", now, epoch, got)
			}
		}
	}
}

func TestLapsedOfEachSmallTable(t *testing.T) {
	eachSmallTable(func(x api.Table) {
		for i := range x.L {
			x.L[i].Msg.Epoch = i % 3
		}
		m := modelOf(x)
		for now := -1; now <= 3; now++ {
			for epoch := -1; epoch <= 3; epoch++ {
				if got := lease.Lapsed(x, now, epoch); !slices.Equal(got, m.lapsed(now, epoch)) {
					t.Errorf("Lapsed(%+v, %d, %d) = %v, want %v", x, now, epoch, got, m.lapsed(now, epoch))
				}
			}
		}
	})
}

// P6.4

// undo tests that a release after a grant gives back the leases as they were, and the heap but for its order.
func undo(t *testing.T, x api.Table, l api.Lease) {
	y, e := lease.Grant(x, l.Msg, l.Deadline)
	if e != api.OK {
		t.Errorf("Grant(%+v, %+v) = %d", x, l, e)
	}
	z, m, e := lease.Release(y, l.Msg.ID)
	if e != api.OK || m != l.Msg || !slices.Equal(z.L, x.L) || !slices.Equal(sorted(z.Heap), sorted(x.Heap)) || lease.Validate(z) != api.OK {
		t.Errorf("Grant of %+v to %+v and its Release = %+v, %+v, %d", l, x, z, m, e)
	}
}

func TestReleaseUndoesGrant(t *testing.T) {
	eachSmallTable(func(x api.Table) {
		for deadline := range 4 {
			undo(t, x, held(99, deadline))
		}
	})
	for size := range api.MaxCapacity {
		for gap := 1; gap <= size+1; gap++ {
			x, _, _ := lease.Release(rising(size+1), gap)
			for _, deadline := range []int{0, 10 * gap, 15, 999, api.MaxClock} {
				undo(t, x, held(gap, deadline))
			}
		}
	}
}

// A lease is Lapsed at a time just if its deadline has been reached and its message is not purged.
func TestLapsedJustIfReached(t *testing.T) {
	random := rand.New(rand.NewPCG(6, 4))
	for range 2000 {
		var x api.Table
		for _, id := range random.Perm(1 + random.IntN(api.MaxCapacity)) {
			m := msg(1 + id)
			m.Epoch = random.IntN(3)
			x, _ = lease.Grant(x, m, random.IntN(6))
		}
		now, epoch := random.IntN(7)-1, random.IntN(4)
		ids := lease.Lapsed(x, now, epoch)
		for _, l := range x.L {
			if got, want := slices.Contains(ids, l.Msg.ID), l.Deadline <= now && l.Msg.Epoch >= epoch; got != want {
				t.Errorf("Lapsed at %d in %d = %v: that of %+v is %v, want %v", now, epoch, ids, l, got, want)
			}
		}
		if rest := slices.Compact(slices.Sorted(slices.Values(ids))); len(rest) != len(ids) {
			t.Errorf("Lapsed at %d in %d = %v, with an ID twice", now, epoch, ids)
		}
	}
}

// Rules

// R1 and R4: every function returns for all arguments, and with an error nothing else.
func TestAllArguments(t *testing.T) {
	for _, n := range extremes {
		for _, k := range extremes {
			l := api.Lease{Msg: api.Message{ID: n, Route: k, Epoch: n, Count: k, Gen: n, Sent: k}, Deadline: n}
			h := []api.Due{{Deadline: n, ID: k}}
			small := api.Lease{Msg: api.Message{ID: n, Gen: 1}, Deadline: k}
			for _, x := range []api.Table{
				{}, rising(1), rising(12), rising(13),
				{L: []api.Lease{l}, Heap: h}, {L: []api.Lease{small}, Heap: []api.Due{{Deadline: k, ID: n}}},
				{L: []api.Lease{held(1, 10), small}, Heap: append(heap([2]int{1, 10}), h...)},
				{L: slices.Repeat([]api.Lease{l}, 1000), Heap: slices.Repeat(h, 1000)},
				{Heap: slices.Repeat(h, 1000)}, {L: slices.Repeat([]api.Lease{small}, 1000)},
			} {
				callAll(t, x, l, n, k)
				callAll(t, x, small, n, k)
			}
		}
	}
}

func callAll(t *testing.T, x api.Table, l api.Lease, n, k int) {
	e := lease.Validate(x)
	if got, ok := lease.Find(x, n); ok && e != api.OK || ok != (got != api.Lease{}) {
		t.Errorf("Find(%+v, %d) = %+v, %v", x, n, got, ok)
	}
	if ids := lease.Lapsed(x, n, k); len(ids) > len(x.L) || e != api.OK && len(ids) != 0 {
		t.Errorf("Lapsed(%+v, %d, %d) = %v", x, n, k, ids)
	}
	y, e := lease.Grant(x, l.Msg, l.Deadline)
	check(t, "Grant", x, y, e, +1)
	y, m, e := lease.Release(x, n)
	check(t, "Release", x, y, e, -1)
	if (e == api.OK) != (m != api.Message{}) {
		t.Errorf("Release(%+v, %d) gives %+v and %d", x, n, m, e)
	}
	y, e = lease.Extend(x, n, k)
	check(t, "Extend", x, y, e, 0)
}

// check tests that a result is valid and has that many more leases, or is nothing with an error.
func check(t *testing.T, name string, x, got api.Table, e api.Errno, more int) {
	if e != api.OK && !isEmpty(got) {
		t.Errorf("%s(%+v) = %+v, %d", name, x, got, e)
	}
	if e == api.OK && (lease.Validate(got) != api.OK || len(got.L) != len(x.L)+more) {
		t.Errorf("%s(%+v) = %+v", name, x, got)
	}
}

// roomy returns the table in lists with room behind them, which an append in place would write to.
func roomy(x api.Table) (l []api.Lease, h []api.Due) {
	return append(slices.Clone(x.L), junkLease, junkLease), append(slices.Clone(x.Heap), junkDue, junkDue)
}

func spoil(l []api.Lease, h []api.Due) {
	for i := range l {
		l[i] = junkLease
	}
	for i := range h {
		h[i] = junkDue
	}
}

// R2: no function changes its arguments, and results are new memory.
func TestNothingIsShared(t *testing.T) {
	for size := range api.MaxCapacity + 1 {
		l, h := roomy(rising(size))
		x := api.Table{L: l[:size], Heap: h[:size]}
		oldL, oldH := slices.Clone(l), slices.Clone(h)
		for name, f := range map[string]func() api.Table{
			"Grant at the end":   func() api.Table { y, _ := lease.Grant(x, msg(99), 999); return y },
			"Grant at the front": func() api.Table { y, _ := lease.Grant(x, msg(99), 0); return y },
			"Release the first":  func() api.Table { y, _, _ := lease.Release(x, 1); return y },
			"Release the second": func() api.Table { y, _, _ := lease.Release(x, 2); return y },
			"Release the last":   func() api.Table { y, _, _ := lease.Release(x, size); return y },
			"Extend the first":   func() api.Table { y, _ := lease.Extend(x, 1, 999); return y },
			"Extend the last":    func() api.Table { y, _ := lease.Extend(x, size, 0); return y },
			"Extend by nothing":  func() api.Table { y, _ := lease.Extend(x, size, 10*size); return y },
		} {
			first, second := f(), f()
			result := clone(second)
			if !same(first, second) {
				t.Errorf("%s of %d: %+v, and then %+v", name, size, first, second)
			}
			spoil(first.L[:cap(first.L)], first.Heap[:cap(first.Heap)])
			if !same(second, result) || !slices.Equal(l, oldL) || !slices.Equal(h, oldH) {
				t.Errorf("%s of %d: a result shares memory with another one or with the argument", name, size)
			}
			spoil(l, h)
			if !same(second, result) {
				t.Errorf("%s of %d: a result shares memory with the argument", name, size)
			}
			copy(l, oldL)
			copy(h, oldH)
		}
	}
}

func TestLapsedReturnsNewMemory(t *testing.T) {
	x := rising(12)
	first, second := lease.Lapsed(x, 60, 0), lease.Lapsed(x, 60, 0)
	clear(first[:cap(first)])
	if want := []int{1, 2, 3, 4, 5, 6}; !slices.Equal(second, want) || !same(x, rising(12)) {
		t.Errorf("Lapsed = %v, want %v, of %+v", second, want, x)
	}
}

func TestNothingIsChanged(t *testing.T) {
	eachSmallTable(func(x api.Table) {
		l, h := roomy(x)
		oldL, oldH := slices.Clone(l), slices.Clone(h)
		x = api.Table{L: l[:len(x.L)], Heap: h[:len(x.Heap)]}
		lease.Validate(x)
		lease.Grant(x, msg(99), 0)
		lease.Grant(x, msg(99), 99)
		for id := range len(x.L) + 2 {
			lease.Find(x, id)
			lease.Release(x, id)
			lease.Extend(x, id, 0)
			lease.Extend(x, id, 99)
			lease.Extend(x, id, -1)
		}
		for now := range 3 {
			lease.Lapsed(x, now, 0)
			lease.Lapsed(x, now, 3)
		}
		if !slices.Equal(l, oldL) || !slices.Equal(h, oldH) {
			t.Errorf("%+v, %v was changed to %+v, %v", oldL, oldH, l, h)
		}
	})
}

// What an earlier call returned does not change when its table is used again.
func TestEarlierResultsStay(t *testing.T) {
	first, _ := lease.Grant(api.Table{}, msg(5), 50)
	second, _ := lease.Grant(first, msg(3), 30)
	third, _ := lease.Grant(second, msg(4), 40)
	other, _ := lease.Grant(second, msg(9), 20)
	fourth, _ := lease.Extend(third, 3, 60)
	fifth, _, _ := lease.Release(third, 5)
	lease.Grant(fifth, msg(1), 10)
	lease.Extend(fourth, 4, 0)
	lease.Release(fourth, 3)
	for i, c := range []struct{ got, want api.Table }{
		{first, table([2]int{5, 50})},
		{second, table([2]int{3, 30}, [2]int{5, 50})},
		{third, table([2]int{3, 30}, [2]int{5, 50}, [2]int{4, 40})},
		{other, table([2]int{9, 20}, [2]int{5, 50}, [2]int{3, 30})},
		{fourth, table([2]int{4, 40}, [2]int{5, 50}, [2]int{3, 60})},
		{fifth, table([2]int{3, 30}, [2]int{4, 40})},
	} {
		if !same(c.got, c.want) {
			t.Errorf("table %d: %+v, want %+v", i+1, c.got, c.want)
		}
	}
}

// R2 and R3: a result depends neither on whether an empty list is nil nor on the room behind a list.
func TestEqualArguments(t *testing.T) {
	for size := range api.MaxCapacity + 1 {
		x := rising(size)
		wide := api.Table{L: append(make([]api.Lease, 0, 64), x.L...), Heap: append(make([]api.Due, 0, 64), x.Heap...)}
		narrow := api.Table{L: slices.Clip(slices.Clone(x.L)), Heap: slices.Clip(slices.Clone(x.Heap))}
		for _, id := range []int{1, size, 99} {
			for _, deadline := range []int{0, 999} {
				a, aErr := lease.Grant(wide, msg(max(id, 1)), deadline)
				b, bErr := lease.Grant(narrow, msg(max(id, 1)), deadline)
				c, cErr := lease.Extend(wide, id, deadline)
				d, dErr := lease.Extend(narrow, id, deadline)
				if !same(a, b) || aErr != bErr || !same(c, d) || cErr != dErr {
					t.Errorf("%d of %d until %d: %+v, %d or %+v, %d and %+v, %d or %+v, %d", id, size, deadline, a, aErr, b, bErr, c, cErr, d, dErr)
				}
			}
		}
	}
	want := api.Table{L: leases([2]int{7, 30}), Heap: heap([2]int{7, 30})}
	for _, empty := range []api.Table{{}, {L: []api.Lease{}}, {Heap: []api.Due{}}, {L: []api.Lease{}, Heap: []api.Due{}}, {L: rising(3).L[:0], Heap: rising(3).Heap[:0]}} {
		if x, e := lease.Grant(empty, msg(7), 30); e != api.OK || !same(x, want) {
			t.Errorf("Grant to no leases = %+v, %d", x, e)
		}
		if x, m, e := lease.Release(empty, 7); e != api.ErrMissing || !isEmpty(x) || m != (api.Message{}) {
			t.Errorf("Release of no leases = %+v, %+v, %d", x, m, e)
		}
		if x, e := lease.Extend(empty, 7, 30); e != api.ErrMissing || !isEmpty(x) {
			t.Errorf("Extend of no leases = %+v, %d", x, e)
		}
	}
}
