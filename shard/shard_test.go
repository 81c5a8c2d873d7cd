package shard_test

import (
	"math"
	"math/rand/v2"
	"slices"
	"strings"
	"testing"

	"shardqueue/api"
	"shardqueue/due"
	"shardqueue/lease"
	"shardqueue/ring"
	"shardqueue/shard"
)

// base returns a shard that has room for one message: 5, 2 and 9 are ready, the last one in the first cell, and 7 and 3 are leased.
func base() model {
	m := span(6, 10, 99)
	m.head = 4
	return m.with(msg(5, 10), msg(2, 99), msg(9, 50)).leasing(msg(7, 10), 30).leasing(msg(3, 99), 40)
}

// good returns arguments with which each function succeeds on base.
func good() arguments {
	return arguments{
		m: msg(8, 20), h: handleOf(msg(7, 10)), l: []api.Message{msg(8, 20)}, other: span(3, 100, 109).shard(),
		max: 2, now: 5, visibility: 10, epoch: 1, limit: 3, k: 1, mid: 50,
	}
}

// wild returns arguments of which each one is wrong.
func wild() arguments {
	return arguments{
		h: api.Handle{ID: -1}, l: make([]api.Message, 99), other: base().shard(),
		max: -1, now: -1, visibility: -1, epoch: -1, limit: -1, k: -1, mid: -1,
	}
}

// free returns a shard that is not live.
func free(capacity, head int) api.Shard {
	m := model{capacity: capacity, head: head}
	return m.shard()
}

// check tests that a result is what it should be.
func check(t *testing.T, name string, got, want result) {
	t.Helper()
	if !same(got, want) {
		t.Errorf("%s = %+v,\nwant %+v", name, got, want)
	}
}

// checkShard tests that a function succeeded, and returned this shard.
func checkShard(t *testing.T, name string, got api.Shard, e api.Errno, want model) {
	t.Helper()
	if e != api.OK || !sameShard(got, want.shard()) {
		t.Errorf("%s = %+v, %d,\nwant %+v", name, got, e, want.shard())
	}
}

// P7.1

func TestNew(t *testing.T) {
	capacities := []int{-1, 0, 1, 2, 5, 11, 12, 13, math.MinInt, math.MaxInt}
	routes := []int{math.MinInt, -1, 0, 1, 5, 1000, api.Space - 2, api.Space - 1, api.Space, api.Space + 1, math.MaxInt}
	for _, capacity := range capacities {
		for _, low := range routes {
			for _, high := range routes {
				s, e := shard.New(capacity, low, high)
				want := failure(api.ErrRange)
				if capacity >= 1 && capacity <= 12 && low >= 0 && low <= high && high <= 65535 {
					want = result{s: api.Shard{Live: true, Low: low, High: high, Ready: api.Ring{Cells: make([]api.Message, capacity)}}}
				}
				check(t, "New", result{s: s, e: e}, want)
			}
		}
	}
}

func TestFree(t *testing.T) {
	for _, capacity := range append([]int{5, 11, 12, 13, 1000}, extremes...) {
		s, e := shard.Free(capacity)
		want := failure(api.ErrRange)
		if capacity >= 1 && capacity <= 12 {
			want = result{s: api.Shard{Ready: api.Ring{Cells: make([]api.Message, capacity)}}}
		}
		check(t, "Free", result{s: s, e: e}, want)
		if v := shard.Validate(s); v != e {
			t.Errorf("Validate of Free(%d) = %d, want %d", capacity, v, e)
		}
	}
}

// fault makes a shard not valid: by a change of its model, or of the shard itself.
type fault struct {
	name    string
	model   func(m *model)
	shard   func(s *api.Shard)
	want    api.Errno
	anyKind bool // is the same for a shard that is not live
}

// faults are faults of base, in the order in which they are examined.
func faults() []fault {
	long := strings.Repeat("b", api.MaxBody+1)
	return []fault{
		{"a head that is no cell", nil, func(s *api.Shard) { s.Ready.Head = 6 }, api.ErrRange, true},
		{"a free cell that is not zero", nil, func(s *api.Shard) { s.Ready.Cells[3].Sent = 1 }, api.ErrState, true},
		{"a ready message with a long body", func(m *model) { m.ready[0].Body = long }, nil, api.ErrTooLong, true},
		{"a ready message twice", func(m *model) { *m = m.with(msg(2, 99)) }, nil, api.ErrDuplicate, true},
		{"a leased message with a long body", func(m *model) { m.leased[0].Msg.Body = long }, nil, api.ErrTooLong, true},
		{"leases in descending order", func(m *model) { slices.Reverse(m.leased) }, nil, api.ErrOrder, true},
		{"an element of the heap twice", func(m *model) { m.heap = append(m.heap, m.heap[0]) }, nil, api.ErrDuplicate, true},
		{"an element of the heap that is not in order", func(m *model) { m.heap[0].Deadline = 99 }, nil, api.ErrOrder, true},
		{"an element of the heap with another deadline", func(m *model) { m.heap[0].Deadline--; m.heap[1].Deadline-- }, nil, api.ErrState, true},
		{"a low above high", func(m *model) { m.low, m.high = 99, 10 }, nil, api.ErrRange, false},
		{"more messages than cells", func(m *model) { *m = m.leasing(msg(21, 20), 90).leasing(msg(22, 20), 90) }, nil, api.ErrFull, false},
		{"a route of another shard", func(m *model) { m.ready[2].Route = 100 }, nil, api.ErrMoved, false},
		{"a message ready and leased", func(m *model) { *m = m.leasing(msg(2, 99), 80) }, nil, api.ErrDuplicate, false},
	}
}

// faulty returns base with faults, of which the last ones come about first.
func faulty(live bool, l ...fault) api.Shard {
	m := base()
	m.live = live
	for _, f := range slices.Backward(l) {
		if f.model != nil {
			f.model(&m)
		}
	}
	s := m.shard()
	for _, f := range l {
		if f.shard != nil {
			f.shard(&s)
		}
	}
	return s
}

// Of all faults that a shard has, the first one counts. A shard that is not live and stores something has another error behind those of its parts.
func TestValidateInOrder(t *testing.T) {
	all := faults()
	for set := range 1 << len(all) {
		var l []fault
		for i, f := range all {
			if set>>i&1 == 1 {
				l = append(l, f)
			}
		}
		want, wantFree := api.OK, api.ErrState
		if len(l) > 0 {
			want = l[0].want
		}
		if len(l) > 0 && l[0].anyKind {
			wantFree = want
		}
		if s := faulty(true, l...); shard.Validate(s) != want {
			t.Errorf("Validate(%+v) = %d, want %d", s, shard.Validate(s), want)
		}
		if s := faulty(false, l...); shard.Validate(s) != wantFree {
			t.Errorf("Validate(%+v) = %d, want %d", s, shard.Validate(s), wantFree)
		}
	}
}

func TestValidateAcceptsShards(t *testing.T) {
	whole := span(1, 0, api.Space-1)
	for name, s := range map[string]api.Shard{
		"base":                          base().shard(),
		"all routes":                    whole.shard(),
		"the first route":               span(1, 0, 0).with(msg(1, 0)).shard(),
		"the last route":                span(1, api.Space-1, api.Space-1).leasing(msg(1, api.Space-1), 5).shard(),
		"the ends of all routes":        span(3, 0, api.Space-1).with(msg(1, 0), msg(2, api.Space-1)).leasing(msg(3, 7), 0).shard(),
		"a ready one in the only cell":  whole.with(msg(1, 5)).shard(),
		"a leased one for the only one": whole.leasing(msg(1, 5), 5).shard(),
		"a message that is not held":    whole.leasing(api.Message{ID: 1, Gen: 1}, 0).shard(),
		"not live":                      free(1, 0),
		"not live, with another head":   free(12, 11),
		"not live, with empty lists":    {Ready: api.Ring{Cells: make([]api.Message, 2)}, Leases: api.Table{L: []api.Lease{}, Heap: []api.Due{}}},
		"live, with empty lists":        {Live: true, Ready: api.Ring{Cells: make([]api.Message, 2)}, Leases: api.Table{L: []api.Lease{}, Heap: []api.Due{}}},
	} {
		if e := shard.Validate(s); e != api.OK {
			t.Errorf("%s: Validate(%+v) = %d", name, s, e)
		}
	}
}

// A shard without messages is valid just if its routes are: all that exist if it is live, and 0 to 0 if it is not.
func TestValidateRoutes(t *testing.T) {
	numbers := append([]int{5, api.Space - 1, api.Space}, extremes...)
	for _, low := range numbers {
		for _, high := range numbers {
			m := span(2, low, high)
			want, wantFree := api.ErrRange, api.ErrState
			if low >= 0 && low <= high && high <= 65535 {
				want = api.OK
			}
			if low == 0 && high == 0 {
				wantFree = api.OK
			}
			if e := shard.Validate(m.shard()); e != want {
				t.Errorf("Validate of a live shard from %d to %d = %d, want %d", low, high, e, want)
			}
			m.live = false
			if e := shard.Validate(m.shard()); e != wantFree {
				t.Errorf("Validate of a free shard from %d to %d = %d, want %d", low, high, e, wantFree)
			}
		}
	}
}

// Ready and leased messages count the same: a shard is valid as long as there are not more than it has cells. One that is not live stores none.
func TestValidateNumberOfMessages(t *testing.T) {
	for capacity := 1; capacity <= api.MaxCapacity; capacity++ {
		for ready := range capacity + 1 {
			for leased := range api.MaxCapacity + 1 {
				m := span(capacity, 0, 9)
				for id := range ready {
					m = m.with(msg(100+id, 0))
				}
				for id := range leased {
					m = m.leasing(msg(200+id, 0), 5)
				}
				want, wantFree := api.OK, api.OK
				if ready+leased > capacity {
					want = api.ErrFull
				}
				if ready+leased > 0 {
					wantFree = api.ErrState
				}
				if e := shard.Validate(m.shard()); e != want {
					t.Errorf("Validate of %d ready and %d leased ones in %d cells = %d, want %d", ready, leased, capacity, e, want)
				}
				m.live, m.high = false, 0
				if e := shard.Validate(m.shard()); e != wantFree {
					t.Errorf("Validate of a free shard with %d ready and %d leased ones = %d, want %d", ready, leased, e, wantFree)
				}
			}
		}
	}
}

// A route of another shard, and an ID that is ready and leased, are found at each place.
func TestValidateEachPlace(t *testing.T) {
	for ready := range 7 {
		for leased := range 13 - ready {
			m := span(12, 10, 20)
			for i := range ready {
				m = m.with(msg(101+i, 10+i))
			}
			for i := range leased {
				m = m.leasing(msg(201+i, 20-i%10), 30-i)
			}
			for _, route := range []int{9, 21, 0, api.Space - 1} {
				for i := range ready {
					x := modelOf(m.shard())
					x.ready[i].Route = route
					wantError(t, x, api.ErrMoved)
				}
				for i := range leased {
					x := modelOf(m.shard())
					x.leased[i].Msg.Route = route
					wantError(t, x, api.ErrMoved)
				}
			}
			for i := range ready {
				for j := range leased {
					x := modelOf(m.shard())
					x.ready[i].ID = 201 + j
					wantError(t, x, api.ErrDuplicate)
				}
			}
			wantError(t, m, api.OK)
		}
	}
}

func wantError(t *testing.T, m model, want api.Errno) {
	t.Helper()
	if e := shard.Validate(m.shard()); e != want {
		t.Errorf("Validate(%+v) = %d, want %d", m.shard(), e, want)
	}
}

// A small shard with numbers from small ranges has just the errors that its parts and their connections have.
func TestValidateRandomShards(t *testing.T) {
	random := rand.New(rand.NewPCG(7, 1))
	seen := map[api.Errno]int{}
	for range 100000 {
		m := span(1+random.IntN(4), random.IntN(3), random.IntN(4))
		m.live, m.head = random.IntN(3) > 0, random.IntN(m.capacity)
		for range random.IntN(m.capacity + 1) {
			m = m.with(msg(1+random.IntN(9), 1+random.IntN(3)))
		}
		for range random.IntN(3) {
			m = m.leasing(msg(1+random.IntN(9), 1+random.IntN(3)), random.IntN(3))
		}
		if random.IntN(3) == 0 {
			m.low, m.high = 0, 0
		}
		e, want := shard.Validate(m.shard()), m.fault()
		if e != want {
			t.Errorf("Validate(%+v) = %d, want %d", m.shard(), e, want)
		}
		seen[e]++
	}
	for _, e := range []api.Errno{api.OK, api.ErrRange, api.ErrState, api.ErrFull, api.ErrMoved, api.ErrDuplicate} {
		if seen[e] < 100 {
			t.Errorf("the error %d came only %d times", e, seen[e])
		}
	}
}

// fault is the error of a shard.
func (m model) fault() api.Errno {
	s := m.shard()
	if e := ring.Validate(s.Ready); e != api.OK {
		return e
	}
	if e := lease.Validate(s.Leases); e != api.OK {
		return e
	}
	if !m.live {
		if m.low == 0 && m.high == 0 && m.size() == 0 {
			return api.OK
		}
		return api.ErrState
	}
	switch ids := m.ids(); {
	case m.low > m.high:
		return api.ErrRange
	case m.size() > m.capacity:
		return api.ErrFull
	case slices.ContainsFunc(m.ready, func(x api.Message) bool { return x.Route < m.low || x.Route > m.high }):
		return api.ErrMoved
	case slices.ContainsFunc(m.leased, func(l api.Lease) bool { return l.Msg.Route < m.low || l.Msg.Route > m.high }):
		return api.ErrMoved
	case len(slices.Compact(slices.Sorted(slices.Values(ids)))) < len(ids):
		return api.ErrDuplicate
	}
	return api.OK
}

// broken is a shard with which no function can do anything, and the error of them all.
type broken struct {
	name string
	s    api.Shard
	want api.Errno
}

func brokenShards() []broken {
	all := []broken{
		{"a zero shard", api.Shard{}, api.ErrRange},
		{"a live zero shard", api.Shard{Live: true}, api.ErrRange},
		{"13 cells", span(13, 0, 9).shard(), api.ErrRange},
		{"1000 cells", span(1000, 0, 9).shard(), api.ErrRange},
		{"13 leases", api.Shard{Live: true, High: 9, Ready: span(12, 0, 9).shard().Ready, Leases: api.Table{L: make([]api.Lease, 13)}}, api.ErrTooLong},
		{"routes from -1", span(2, -1, 9).shard(), api.ErrRange},
		{"routes to Space", span(2, 0, api.Space).shard(), api.ErrRange},
		{"free, from 1 to 1", model{low: 1, high: 1, capacity: 2}.shard(), api.ErrState},
		{"free, with a ready message", model{capacity: 2}.with(msg(1, 0)).shard(), api.ErrState},
		{"free, with a leased message", model{capacity: 2}.leasing(msg(1, 0), 50).shard(), api.ErrState},
		{"free", free(6, 0), api.ErrState},
		{"free, with another head", free(6, 5), api.ErrState},
	}
	for _, f := range faults() {
		all = append(all, broken{f.name, faulty(true, f), f.want})
		if f.anyKind {
			all = append(all, broken{"free, " + f.name, faulty(false, f), f.want})
		}
	}
	return all
}

// The error of the shard comes first, whatever else is wrong, and then that it is not live.
func TestErrorOfTheShardComesFirst(t *testing.T) {
	for _, c := range brokenShards() {
		for _, f := range functions {
			check(t, f.name+" of "+c.name, f.call(c.s, good()), failure(c.want))
			check(t, f.name+" of "+c.name, f.call(c.s, wild()), failure(c.want))
		}
	}
}

// Unite examines a, then b, then whether both are live.
func TestErrorOfTheFirstShardComesFirst(t *testing.T) {
	live := broken{"live", base().shard(), api.OK}
	for _, a := range append(brokenShards(), live) {
		for _, b := range append(brokenShards(), live) {
			want := api.ErrState // for two shards with the same routes, too
			if e := shard.Validate(b.s); e != api.OK {
				want = e
			}
			if e := shard.Validate(a.s); e != api.OK {
				want = e
			}
			s, e := shard.Unite(a.s, b.s)
			check(t, "Unite of "+a.name+" and "+b.name, result{s: s, e: e}, failure(want))
		}
	}
}

func TestAShardThatIsNotValidIsNotLive(t *testing.T) {
	for _, c := range brokenShards() {
		if n := shard.Stored(c.s); n != 0 {
			t.Errorf("%s: Stored = %d", c.name, n)
		}
		for _, route := range []int{0, 1, 5, 9, 10, 50, 99, api.Space - 1} {
			if shard.Owns(c.s, route) {
				t.Errorf("%s: Owns %d", c.name, route)
			}
		}
		for epoch := range 3 {
			if ready, leased := shard.Counts(c.s, epoch, 8); ready != 0 || leased != 0 {
				t.Errorf("%s: Counts = %d, %d", c.name, ready, leased)
			}
			for _, m := range []api.Message{msg(7, 10), msg(3, 99), msg(1, 0), msg(2, 99)} {
				if shard.Holds(c.s, handleOf(m), 0, epoch) {
					t.Errorf("%s: Holds %d", c.name, m.ID)
				}
			}
		}
	}
}

// number finds a number among the arguments.
func number(a *arguments, name string) *int {
	switch name {
	case "max":
		return &a.max
	case "now":
		return &a.now
	case "visibility":
		return &a.visibility
	case "epoch":
		return &a.epoch
	case "limit":
		return &a.limit
	}
	return &a.k
}

// bounds are the least and the greatest value of each number that is examined.
var bounds = map[string][2]int{
	"max": {1, 6}, "now": {0, 1 << 30}, "visibility": {0, 1000}, "epoch": {0, 1 << 16}, "limit": {1, 8}, "k": {0, math.MaxInt},
}

// A number out of its range is an error, even if the handle is not held, or the time would be exhausted.
func TestRangesOfNumbers(t *testing.T) {
	s := base().shard()
	others := []arguments{good(), good(), good()}
	others[1].h = api.Handle{}
	others[2].now, others[2].visibility = api.MaxClock, api.MaxVisibility
	for _, f := range functions {
		for _, name := range strings.Fields(f.numbers) {
			for _, n := range append([]int{7, 9, 1001, 1<<16 + 1}, extremes...) {
				if n >= bounds[name][0] && n <= bounds[name][1] {
					continue
				}
				for _, a := range others {
					*number(&a, name) = n
					check(t, f.name+" with "+name+" out of range", f.call(s, a), failure(api.ErrRange))
				}
			}
			for _, n := range bounds[name] {
				a := good()
				*number(&a, name) = n
				check(t, f.name+" with "+name+" at an end", f.call(s, a), f.model(base(), a))
			}
		}
	}
}

func TestRangesOfNumbersWithoutErrno(t *testing.T) {
	s := base().shard()
	h := handleOf(msg(7, 10))
	for _, n := range append([]int{7, 8, 9, 1<<16 + 1}, extremes...) {
		ready, leased := shard.Counts(s, n, 3)
		if in := n >= 0 && n <= 2; ready != map[bool]int{true: 3}[in] || leased != map[bool]int{true: 2}[in] {
			t.Errorf("Counts in the epoch %d = %d, %d", n, ready, leased)
		}
		ready, leased = shard.Counts(s, 1, n)
		if in := n >= 1 && n <= 8; ready != map[bool]int{true: 3}[in && n > 1] || leased != map[bool]int{true: 2}[in] {
			t.Errorf("Counts with the limit %d = %d, %d", n, ready, leased)
		}
		if got, want := shard.Holds(s, h, n, 1), n >= 0 && n < 30; got != want {
			t.Errorf("Holds at %d = %v", n, got)
		}
		if got, want := shard.Holds(s, h, 5, n), n >= 0 && n <= 2; got != want {
			t.Errorf("Holds in the epoch %d = %v", n, got)
		}
	}
}

// P7.2

func TestStored(t *testing.T) {
	random := rand.New(rand.NewPCG(7, 2))
	if n := shard.Stored(base().shard()); n != 5 {
		t.Errorf("Stored = %d, want 5", n)
	}
	for range 2000 {
		m := randomModel(random, 100, 109, 30)
		if n := shard.Stored(m.shard()); n != len(m.ready)+len(m.leased) {
			t.Errorf("Stored(%+v) = %d", m.shard(), n)
		}
	}
}

func TestOwns(t *testing.T) {
	for _, c := range [][2]int{{0, 0}, {0, 9}, {10, 99}, {5, 5}, {100, api.Space - 1}, {0, api.Space - 1}, {api.Space - 1, api.Space - 1}} {
		s := span(2, c[0], c[1]).shard()
		for _, route := range append([]int{4, 5, 6, 9, 10, 99, 100, 101, api.Space - 2, api.Space - 1, api.Space}, extremes...) {
			if got, want := shard.Owns(s, route), route >= c[0] && route <= c[1]; got != want {
				t.Errorf("from %d to %d: Owns %d = %v", c[0], c[1], route, got)
			}
		}
	}
	for _, route := range []int{0, 1, -1} {
		if shard.Owns(free(2, 0), route) {
			t.Errorf("a shard that is not live Owns %d", route)
		}
	}
}

// Ready messages count unless they are purged or spent, leased ones unless they are purged. Neither the generation nor the deadline matters.
func TestCounts(t *testing.T) {
	at := func(id, epoch, count, gen int) api.Message {
		return api.Message{ID: id, Route: 5, Epoch: epoch, Count: count, Gen: gen}
	}
	s := span(12, 0, 9).
		with(at(1, 0, 0, 0), at(2, 0, 2, 2), at(3, 1, 0, 9), at(4, 1, 1, api.MaxGen), at(5, 1, 3, 3), at(6, 2, 8, 8)).
		leasing(at(7, 0, 1, 1), 0).leasing(at(8, 1, 8, 8), 5).leasing(at(9, 1, 1, api.MaxGen), api.MaxClock).leasing(at(10, 2, 0, 4), 1).shard()
	ready := [][]int{ // by the epoch, for the limits from 1 on
		{2, 3, 4, 5, 5, 5, 5, 5},
		{1, 2, 2, 3, 3, 3, 3, 3},
		{0, 0, 0, 0, 0, 0, 0, 0},
		{0, 0, 0, 0, 0, 0, 0, 0},
	}
	leased := []int{4, 3, 1, 0}
	for epoch := range ready {
		for i, want := range ready[epoch] {
			if r, l := shard.Counts(s, epoch, i+1); r != want || l != leased[epoch] {
				t.Errorf("Counts in %d with the limit %d = %d, %d, want %d, %d", epoch, i+1, r, l, want, leased[epoch])
			}
		}
	}
	if r, l := shard.Counts(span(3, 0, 9).shard(), 0, 8); r != 0 || l != 0 {
		t.Errorf("Counts of no messages = %d, %d", r, l)
	}
	if r, l := shard.Counts(free(3, 0), 0, 8); r != 0 || l != 0 {
		t.Errorf("Counts of a shard that is not live = %d, %d", r, l)
	}
}

// P7.3

func TestPut(t *testing.T) {
	for _, x := range []api.Message{
		msg(8, 10), msg(1, 99), msg(30, 55),
		{ID: api.MaxID, Route: 10, Epoch: api.MaxEpoch, Count: api.MaxLimit, Gen: api.MaxGen, Sent: api.MaxClock, Body: strings.Repeat("\xff", api.MaxBody)},
		{ID: 1, Route: 99},
	} {
		s, e := shard.Put(base().shard(), x)
		checkShard(t, "Put", s, e, base().with(x))
		if s.Ready.Cells[1] != x || s.Ready.Head != 4 || s.Ready.Size != 4 {
			t.Errorf("Put gives the deque %+v", s.Ready)
		}
	}
	s, e := shard.Put(span(1, 0, 0).shard(), msg(4, 0))
	checkShard(t, "Put to the only cell", s, e, span(1, 0, 0).with(msg(4, 0)))
}

// Of all that is wrong with a message, the first one counts.
func TestPutErrorsInOrder(t *testing.T) {
	faults := []struct {
		f    func(m *model, x *api.Message)
		want api.Errno
	}{
		{func(m *model, x *api.Message) { x.Sent = -1 }, api.ErrRange},
		{func(m *model, x *api.Message) { x.Body = strings.Repeat("b", 17) }, api.ErrTooLong},
		{func(m *model, x *api.Message) { x.Route = 9 }, api.ErrMoved},
		{func(m *model, x *api.Message) { x.Route = 100 }, api.ErrMoved},
		{func(m *model, x *api.Message) { *m = m.with(msg(40, 50)) }, api.ErrFull},
		{func(m *model, x *api.Message) { x.ID = 9 }, api.ErrDuplicate},
		{func(m *model, x *api.Message) { x.ID = 3 }, api.ErrDuplicate},
	}
	for set := range 1 << len(faults) {
		m, x, want := base(), msg(8, 50), api.OK
		for i, f := range slices.Backward(faults) {
			if set>>i&1 == 1 {
				f.f(&m, &x)
				want = f.want
			}
		}
		s, e := shard.Put(m.shard(), x)
		if e != want || e != api.OK && !sameShard(s, api.Shard{}) {
			t.Errorf("Put(%+v, %+v) = %+v, %d, want %d", m.shard(), x, s, e, want)
		}
	}
}

func TestPutOfEachIDThatIsThere(t *testing.T) {
	for _, id := range []int{5, 2, 9, 7, 3} {
		for _, x := range []api.Message{msg(id, 10), {ID: id, Route: 99}} {
			s, e := shard.Put(base().shard(), x)
			check(t, "Put of an ID that is there", result{s: s, e: e}, failure(api.ErrDuplicate))
		}
	}
}

// P7.4

// The example of the chapter.
func TestTakeHoldsAndExpire(t *testing.T) {
	one, two := api.Message{ID: 1, Route: 1}, api.Message{ID: 2, Route: 2}
	leased := api.Message{ID: 1, Route: 1, Count: 1, Gen: 1}
	s, l, e := shard.Take(span(3, 0, 9).with(one, two).shard(), 1, 10, 5, 0, 3)
	want := span(3, 0, 9).with(two).leasing(leased, 15)
	check(t, "Take", result{s: s, leases: l, e: e}, result{s: want.shard(), leases: []api.Lease{{Msg: leased, Deadline: 15}}})
	if h := handleOf(leased); !shard.Holds(s, h, 14, 0) || shard.Holds(s, h, 15, 0) {
		t.Error("Holds at 14 and not at 15")
	}
	s, ids, e := shard.Expire(s, 14, 0, 3)
	check(t, "Expire at 14", result{s: s, ids: ids, e: e}, result{s: want.shard()})
	s, ids, e = shard.Expire(s, 15, 0, 3)
	check(t, "Expire at 15", result{s: s, ids: ids, e: e}, result{s: span(3, 0, 9).with(two, leased).shard(), ids: []int{1}})
}

// mixed returns a shard in the epoch 2 with the limit 3, of which 3, 5, 6 and 8 are receivable; 6 has the greatest generation but one.
func mixed() model {
	at := func(id, epoch, count, gen int) api.Message {
		return api.Message{ID: id, Route: 5, Epoch: epoch, Count: count, Gen: gen}
	}
	m := span(12, 0, 9)
	m.head = 7
	return m.with(at(1, 2, 3, 3), at(2, 1, 0, 0), at(3, 2, 0, 0), at(4, 2, 1, api.MaxGen), at(5, 3, 2, 7), at(6, 2, 2, api.MaxGen-1), at(7, 2, 8, 9), at(8, 2, 1, 1)).
		leasing(at(20, 2, 1, 1), 50).leasing(at(1000, 2, 1, 1), 10)
}

func TestTake(t *testing.T) {
	receivable := []int{3, 5, 6, 8}
	for most := 1; most <= api.MaxEntries; most++ {
		s, l, e := shard.Take(mixed().shard(), most, 20, 10, 2, 3)
		want := mixed()
		var leases []api.Lease
		for _, id := range receivable[:min(most, 4)] {
			i := slices.IndexFunc(want.ready, func(x api.Message) bool { return x.ID == id })
			x := want.ready[i]
			x.Count, x.Gen = x.Count+1, x.Gen+1
			leases = append(leases, api.Lease{Msg: x, Deadline: 30})
			want.ready = slices.Delete(want.ready, i, i+1)
			want = want.leasing(x, 30)
		}
		check(t, "Take", result{s: s, leases: l, e: e}, result{s: want.shard(), leases: leases})
	}
}

// A message that leaves the deque leaves no gap, and the head where it is.
func TestTakeLeavesNoGap(t *testing.T) {
	s, l, e := shard.Take(base().shard(), 1, 5, 10, 2, 2)
	first := msg(5, 10)
	first.Count, first.Gen = 2, first.Gen+1
	want := api.Shard{Live: true, Low: 10, High: 99, Ready: api.Ring{Cells: make([]api.Message, 6), Head: 4, Size: 2}}
	want.Ready.Cells[4], want.Ready.Cells[5] = msg(2, 99), msg(9, 50)
	want.Leases.L = []api.Lease{{Msg: msg(3, 99), Deadline: 40}, {Msg: first, Deadline: 15}, {Msg: msg(7, 10), Deadline: 30}}
	want.Leases.Heap = []api.Due{{Deadline: 15, ID: 5}, {Deadline: 40, ID: 3}, {Deadline: 30, ID: 7}}
	check(t, "Take", result{s: s, leases: l, e: e}, result{s: want, leases: []api.Lease{{Msg: first, Deadline: 15}}})
}

func TestTakeOfNothing(t *testing.T) {
	for _, c := range []struct {
		m            model
		epoch, limit int
	}{{span(3, 0, 9), 0, 8}, {base(), 3, 8}, {base(), 0, 1}, {mixed(), 4, 8}, {span(2, 10, 99).leasing(msg(7, 10), 30), 0, 8}} {
		s, l, e := shard.Take(c.m.shard(), 6, 5, 10, c.epoch, c.limit)
		check(t, "Take of nothing", result{s: s, leases: l, e: e}, result{s: c.m.shard()})
	}
}

// A time that is too late is an error even if there is nothing to take, but not before the numbers are in their ranges.
func TestTakeUntilTheEndOfTime(t *testing.T) {
	for _, c := range []struct {
		max, now, visibility int
		want                 api.Errno
	}{
		{1, api.MaxClock, 0, api.OK}, {1, api.MaxClock, 1, api.ErrExhausted}, {6, api.MaxClock, 1000, api.ErrExhausted},
		{1, api.MaxClock - 1000, 1000, api.OK}, {1, api.MaxClock - 999, 1000, api.ErrExhausted}, {1, api.MaxClock - 1, 1, api.OK},
		{0, api.MaxClock, 1, api.ErrRange}, {7, api.MaxClock, 1, api.ErrRange}, {1, api.MaxClock + 1, 1, api.ErrRange}, {1, api.MaxClock, 1001, api.ErrRange},
		{1, math.MaxInt, math.MaxInt, api.ErrRange},
	} {
		for _, m := range []model{base(), span(3, 0, 9)} {
			s, l, e := shard.Take(m.shard(), c.max, c.now, c.visibility, 0, 8)
			if e != c.want || e != api.OK && !same(result{s: s, leases: l}, result{}) {
				t.Errorf("Take(.., %d, %d, %d, ..) = %+v, %+v, %d, want %d", c.max, c.now, c.visibility, s, l, e, c.want)
			}
			for _, x := range l {
				if x.Deadline != c.now+c.visibility {
					t.Errorf("Take(.., %d, %d, %d, ..) leases until %d", c.max, c.now, c.visibility, x.Deadline)
				}
			}
		}
	}
}

// P7.5

func TestHolds(t *testing.T) {
	s := base().shard()
	h := handleOf(msg(7, 10)) // until 30
	for _, c := range []struct {
		name       string
		h          api.Handle
		now, epoch int
		want       bool
	}{
		{"at the beginning", h, 0, 0, true}, {"in its epoch", h, 0, 2, true}, {"purged", h, 0, 3, false},
		{"at the last moment", h, 29, 2, true}, {"at its deadline", h, 30, 2, false}, {"behind its deadline", h, 31, 0, false}, {"at the end of time", h, api.MaxClock, 0, false},
		{"another hint", api.Handle{ID: 7, Gen: 107, Route: 10, Hint: math.MaxInt}, 5, 0, true},
		{"an earlier generation", api.Handle{ID: 7, Gen: 106, Route: 10}, 5, 0, false},
		{"a later generation", api.Handle{ID: 7, Gen: 108, Route: 10}, 5, 0, false},
		{"the route before", api.Handle{ID: 7, Gen: 107, Route: 9}, 5, 0, false},
		{"the route behind", api.Handle{ID: 7, Gen: 107, Route: 11}, 5, 0, false},
		{"a message that is not there", api.Handle{ID: 8, Gen: 107, Route: 10}, 5, 0, false},
		{"a message that is ready", handleOf(msg(5, 10)), 5, 0, false},
		{"the other message", handleOf(msg(3, 99)), 35, 0, true},
		{"a mixture of both", api.Handle{ID: 3, Gen: 107, Route: 10}, 5, 0, false},
		{"no handle", api.Handle{}, 5, 0, false},
		{"no ID", api.Handle{ID: math.MinInt, Gen: 107, Route: 10}, 5, 0, false},
	} {
		if got := shard.Holds(s, c.h, c.now, c.epoch); got != c.want {
			t.Errorf("%s: Holds(%+v, %d, %d) = %v", c.name, c.h, c.now, c.epoch, got)
		}
		a := good()
		a.h, a.now, a.epoch = c.h, c.now, c.epoch
		for _, f := range functions[2:5] { // Ack, Nack, Change
			if r := f.call(s, a); r.e != map[bool]api.Errno{false: api.ErrInvalid}[c.want] || r.e != api.OK && !same(r, failure(r.e)) {
				t.Errorf("%s: %s = %+v", c.name, f.name, r)
			}
		}
	}
}

func TestAck(t *testing.T) {
	s, e := shard.Ack(base().shard(), handleOf(msg(7, 10)), 29, 2)
	want, _ := base().releasing(7)
	checkShard(t, "Ack", s, e, want)
	again, e := shard.Ack(s, handleOf(msg(7, 10)), 29, 2)
	check(t, "Ack again", result{s: again, e: e}, failure(api.ErrInvalid))
	s, e = shard.Ack(s, handleOf(msg(3, 99)), 39, 0)
	want, _ = want.releasing(3)
	checkShard(t, "Ack of the last one", s, e, want)
	if len(s.Leases.L) != 0 || len(s.Leases.Heap) != 0 || s.Ready.Size != 3 {
		t.Errorf("Ack of the last one = %+v", s)
	}
}

// The messages of base were delivered once.
func TestNack(t *testing.T) {
	rest, _ := base().releasing(7)
	front := api.Ring{Cells: []api.Message{msg(9, 50), {}, {}, msg(7, 10), msg(5, 10), msg(2, 99)}, Head: 3, Size: 4}
	back := api.Ring{Cells: []api.Message{msg(9, 50), msg(7, 10), {}, {}, msg(5, 10), msg(2, 99)}, Head: 4, Size: 4}
	for limit := 1; limit <= api.MaxLimit; limit++ {
		want := rest.shard()
		want.Ready = front
		if limit == 1 {
			want.Ready = back
		}
		s, e := shard.Nack(base().shard(), handleOf(msg(7, 10)), 29, 2, limit)
		check(t, "Nack", result{s: s, e: e}, result{s: want})
	}
	s, e := shard.Nack(span(1, 0, 9).leasing(msg(7, 5), 30).shard(), handleOf(msg(7, 5)), 0, 0, 2)
	checkShard(t, "Nack of the only one", s, e, span(1, 0, 9).with(msg(7, 5)))
}

// A message at the front that has its greatest generation is not spent.
func TestNackOfTheGreatestGeneration(t *testing.T) {
	x := api.Message{ID: 7, Route: 5, Count: 2, Gen: api.MaxGen}
	s, e := shard.Nack(span(3, 0, 9).with(msg(1, 5)).leasing(x, 30).shard(), handleOf(x), 0, 0, 3)
	checkShard(t, "Nack", s, e, span(3, 0, 9).with(msg(1, 5)).inFront(x))
	s, e = shard.Nack(span(3, 0, 9).with(msg(1, 5)).leasing(x, 30).shard(), handleOf(x), 0, 0, 2)
	checkShard(t, "Nack", s, e, span(3, 0, 9).with(msg(1, 5), x))
}

func TestChange(t *testing.T) {
	for _, c := range []struct{ now, visibility int }{{0, 0}, {29, 0}, {29, 1}, {5, 1000}, {10, 10}, {10, 20}, {0, 30}, {0, 40}, {29, 11}, {29, 12}} {
		s, e := shard.Change(base().shard(), handleOf(msg(7, 10)), c.now, 2, c.visibility)
		want, _ := base().releasing(7)
		checkShard(t, "Change", s, e, want.leasing(msg(7, 10), c.now+c.visibility))
	}
}

// A handle that is not held is an error before the time is exhausted.
func TestChangeUntilTheEndOfTime(t *testing.T) {
	m := span(2, 0, 9).leasing(msg(7, 5), api.MaxClock)
	for _, c := range []struct {
		h               api.Handle
		now, visibility int
		want            api.Errno
	}{
		{handleOf(msg(7, 5)), api.MaxClock - 1, 0, api.OK}, {handleOf(msg(7, 5)), api.MaxClock - 1, 1, api.OK}, {handleOf(msg(7, 5)), api.MaxClock - 1, 2, api.ErrExhausted},
		{handleOf(msg(7, 5)), api.MaxClock - 1000, 1000, api.OK}, {handleOf(msg(7, 5)), api.MaxClock - 999, 1000, api.ErrExhausted},
		{handleOf(msg(7, 5)), api.MaxClock, 0, api.ErrInvalid}, {handleOf(msg(7, 5)), api.MaxClock, 1, api.ErrInvalid}, {handleOf(msg(7, 6)), api.MaxClock - 1, 2, api.ErrInvalid},
		{handleOf(msg(7, 5)), api.MaxClock - 1, 1001, api.ErrRange}, {handleOf(msg(7, 5)), math.MaxInt, math.MaxInt, api.ErrRange},
	} {
		s, e := shard.Change(m.shard(), c.h, c.now, 0, c.visibility)
		want := failure(c.want)
		if c.want == api.OK {
			want.s = span(2, 0, 9).leasing(msg(7, 5), c.now+c.visibility).shard()
		}
		check(t, "Change", result{s: s, e: e}, want)
	}
}

// P7.6

func TestExpire(t *testing.T) {
	old := msg(6, 15)
	old.Epoch = 1
	m := span(12, 10, 99).with(msg(5, 10))
	m.head = 11
	m = m.leasing(msg(9, 20), 30).leasing(msg(4, 21), 50).leasing(msg(7, 22), 30).leasing(old, 20).leasing(msg(8, 23), 20).leasing(msg(1, 24), 40).leasing(msg(2, 25), 40)
	for _, c := range []struct {
		now, epoch int
		want       []int
	}{
		{0, 0, nil}, {19, 0, nil}, {20, 0, []int{6, 8}}, {29, 1, []int{6, 8}}, {30, 0, []int{6, 8, 7, 9}}, {39, 0, []int{6, 8, 7, 9}},
		{40, 1, []int{6, 8, 7, 9, 1, 2}}, {50, 0, []int{6, 8, 7, 9, 1, 2, 4}}, {api.MaxClock, 0, []int{6, 8, 7, 9, 1, 2, 4}},
		{20, 2, []int{8}}, {50, 2, []int{8, 7, 9, 1, 2, 4}}, {50, 3, nil}, {api.MaxClock, api.MaxEpoch, nil},
	} {
		want := m
		for _, id := range c.want {
			var l api.Lease
			want, l = want.releasing(id)
			want = want.with(l.Msg)
		}
		for limit := 1; limit <= api.MaxLimit; limit++ {
			s, ids, e := shard.Expire(m.shard(), c.now, c.epoch, limit)
			check(t, "Expire", result{s: s, ids: ids, e: e}, result{s: want.shard(), ids: c.want})
		}
	}
}

func TestClean(t *testing.T) {
	in := func(epoch int, x api.Message) api.Message {
		x.Epoch = epoch
		return x
	}
	m := span(12, 10, 99)
	m.head = 9
	m = m.with(in(0, msg(5, 10)), in(2, msg(4, 11)), in(1, msg(9, 12)), in(0, msg(2, 13)), in(3, msg(7, 14))).
		leasing(in(1, msg(6, 15)), 40).leasing(in(0, msg(3, 16)), 20).leasing(in(2, msg(8, 17)), 10).leasing(in(0, msg(1, 18)), 30)
	for epoch, c := range []struct{ ready, leased []int }{
		{nil, nil}, {[]int{5, 2}, []int{1, 3}}, {[]int{5, 9, 2}, []int{1, 3, 6}}, {[]int{5, 4, 9, 2}, []int{1, 3, 6, 8}}, {[]int{5, 4, 9, 2, 7}, []int{1, 3, 6, 8}},
	} {
		want := m
		want.ready = slices.DeleteFunc(slices.Clone(m.ready), func(x api.Message) bool { return slices.Contains(c.ready, x.ID) })
		for _, id := range c.leased {
			want, _ = want.releasing(id)
		}
		s, n, e := shard.Clean(m.shard(), epoch)
		check(t, "Clean", result{s: s, n: n, e: e}, result{s: want.shard(), n: len(c.ready) + len(c.leased)})
		if s.Ready.Head != 9 {
			t.Errorf("Clean moves the head to %d", s.Ready.Head)
		}
	}
}

// The order of the heap after Clean is that of removals in ascending order of the IDs.
func TestCleanInOrder(t *testing.T) {
	random := rand.New(rand.NewPCG(7, 6))
	differs := 0
	for range 3000 {
		m := span(12, 0, 9)
		for _, id := range random.Perm(12) {
			x := msg(1+id, 5)
			x.Epoch = random.IntN(2)
			m = m.leasing(x, random.IntN(9))
		}
		up, down := m, m
		for i := range 12 {
			if m.leased[i].Msg.Epoch == 0 {
				up, _ = up.releasing(i + 1)
			}
			if m.leased[11-i].Msg.Epoch == 0 {
				down, _ = down.releasing(12 - i)
			}
		}
		s, n, e := shard.Clean(m.shard(), 1)
		check(t, "Clean", result{s: s, n: n, e: e}, result{s: up.shard(), n: 12 - len(up.leased)})
		if !slices.Equal(up.heap, down.heap) {
			differs++
		}
	}
	if differs < 100 {
		t.Errorf("the order matters only %d times", differs)
	}
}

// P7.7

func TestDetach(t *testing.T) {
	l := base().ready
	for k := range 4 {
		want := base()
		want.ready = l[:3-k]
		s, got, e := shard.Detach(base().shard(), k)
		check(t, "Detach", result{s: s, messages: got, e: e}, result{s: want.shard(), messages: l[3-k:]})
	}
	for _, k := range []int{-1, 4, 5, 6, 7, math.MinInt, math.MaxInt} {
		s, got, e := shard.Detach(base().shard(), k)
		check(t, "Detach", result{s: s, messages: got, e: e}, failure(api.ErrRange))
	}
	s, got, e := shard.Detach(span(3, 0, 9).shard(), 0)
	check(t, "Detach of nothing", result{s: s, messages: got, e: e}, result{s: span(3, 0, 9).shard()})
}

func TestAbsorb(t *testing.T) {
	m := span(9, 100, 109)
	m.head = 5
	m = m.with(msg(1, 100)).leasing(msg(2, 101), 20)
	x := api.Message{ID: api.MaxID, Route: 100, Epoch: api.MaxEpoch, Count: api.MaxLimit, Gen: api.MaxGen, Sent: api.MaxClock, Body: "x"}
	s, e := shard.Absorb(m.shard(), []api.Message{msg(9, 109), msg(3, 73), msg(8, 110), msg(4, 99), msg(7, 0), msg(5, api.Space-1), x})
	checkShard(t, "Absorb", s, e, m.with(msg(9, 109), msg(3, 103), msg(8, 100), msg(4, 109), msg(7, 100), msg(5, 105), x))
	for _, l := range [][]api.Message{nil, {}} {
		s, e := shard.Absorb(m.shard(), l)
		checkShard(t, "Absorb of nothing", s, e, m)
	}
}

func TestAbsorbErrors(t *testing.T) {
	m := span(5, 100, 109).with(msg(1, 100)).leasing(msg(2, 101), 20)
	long := msg(4, 100)
	long.Body = strings.Repeat("b", 17)
	for _, c := range []struct {
		name string
		l    []api.Message
		want api.Errno
	}{
		{"room for all", []api.Message{msg(3, 0), msg(4, 0), msg(5, 0)}, api.OK},
		{"one too many", []api.Message{msg(3, 0), msg(4, 0), msg(5, 0), msg(6, 0)}, api.ErrFull},
		{"1000 messages", make([]api.Message, 1000), api.ErrFull},
		{"one too many, and all of them wrong", make([]api.Message, 4), api.ErrFull},
		{"a zero message", make([]api.Message, 1), api.ErrRange},
		{"a zero message at the end", []api.Message{msg(3, 0), msg(4, 0), {}}, api.ErrRange},
		{"a body that is too long", []api.Message{msg(3, 0), long}, api.ErrTooLong},
		{"a ready one", []api.Message{msg(1, 0)}, api.ErrDuplicate},
		{"a leased one", []api.Message{msg(3, 0), msg(2, 0)}, api.ErrDuplicate},
		{"the same one twice", []api.Message{msg(3, 0), msg(4, 0), msg(3, 9)}, api.ErrDuplicate},
		{"the error of the first one, which is there", []api.Message{msg(2, 0), {}, long}, api.ErrDuplicate},
		{"the error of the first one, which is too long", []api.Message{long, {}, msg(2, 0)}, api.ErrTooLong},
		{"the error of the first one, which is zero", []api.Message{{}, long, msg(2, 0)}, api.ErrRange},
		// A route that does not exist becomes the route 0, which the shard does not have.
		{"a route below all", []api.Message{msg(3, -1)}, api.ErrMoved},
		{"a route above all", []api.Message{msg(3, api.Space)}, api.ErrMoved},
		{"a route above all of a message that is there", []api.Message{msg(1, api.Space)}, api.ErrMoved},
	} {
		s, e := shard.Absorb(m.shard(), c.l)
		want := failure(c.want)
		if c.want == api.OK {
			want.s = m.with(msg(3, 100), msg(4, 100), msg(5, 100)).shard()
		}
		check(t, "Absorb of "+c.name, result{s: s, e: e}, want)
	}
	s, e := shard.Absorb(span(2, 0, 9).shard(), []api.Message{msg(3, -1), msg(4, math.MaxInt)})
	checkShard(t, "Absorb of routes that do not exist, by a shard with the route 0", s, e, span(2, 0, 9).with(msg(3, 0), msg(4, 0)))
}

func TestBury(t *testing.T) {
	// In the epoch 2 with the limit 2, 1, 5, 6 and 7 are spent.
	for _, c := range []struct {
		k, epoch, limit int
		want            []int
	}{
		{0, 2, 2, nil}, {1, 2, 2, []int{1}}, {2, 2, 2, []int{1, 5}}, {3, 2, 2, []int{1, 5, 6}}, {4, 2, 2, []int{1, 5, 6, 7}}, {5, 2, 2, []int{1, 5, 6, 7}}, {math.MaxInt, 2, 2, []int{1, 5, 6, 7}},
		{12, 0, 1, []int{1, 4, 5, 6, 7, 8}}, {12, 0, 3, []int{1, 7}}, {12, 0, 4, []int{7}}, {12, 2, 8, []int{7}},
		{12, 3, 1, []int{5}}, {12, 4, 1, nil}, {1, 3, 2, []int{5}}, {1, 3, 3, nil},
	} {
		want := mixed()
		var l []api.Message
		for _, id := range c.want {
			i := slices.IndexFunc(want.ready, func(x api.Message) bool { return x.ID == id })
			l = append(l, want.ready[i])
			want.ready = slices.Delete(want.ready, i, i+1)
		}
		s, got, e := shard.Bury(mixed().shard(), c.k, c.epoch, c.limit)
		check(t, "Bury", result{s: s, messages: got, e: e}, result{s: want.shard(), messages: l})
		if s.Ready.Head != 7 {
			t.Errorf("Bury moves the head to %d", s.Ready.Head)
		}
	}
	for _, k := range []int{-1, -2, math.MinInt} {
		s, got, e := shard.Bury(mixed().shard(), k, 2, 2)
		check(t, "Bury", result{s: s, messages: got, e: e}, failure(api.ErrRange))
	}
}

// P7.8

func TestDivide(t *testing.T) {
	m := span(8, 10, 19)
	m.head = 6
	m = m.with(msg(5, 19), msg(2, 10), msg(9, 14), msg(1, 15)).leasing(msg(3, 10), 40).leasing(msg(7, 15), 20).leasing(msg(4, 14), 30)
	lower, upper, e := shard.Divide(m.shard(), 14)
	check(t, "Divide", result{s: lower, upper: upper, e: e}, result{
		s:     span(8, 10, 14).with(msg(2, 10), msg(9, 14)).leasing(msg(3, 10), 40).leasing(msg(4, 14), 30).shard(),
		upper: span(8, 15, 19).with(msg(5, 19), msg(1, 15)).leasing(msg(7, 15), 20).shard(),
	})
	if lower.Ready.Head != 0 || upper.Ready.Head != 0 || lower.Ready.Cells[0].ID != 2 || upper.Ready.Cells[1].ID != 1 {
		t.Errorf("the deques of Divide are %+v and %+v", lower.Ready, upper.Ready)
	}
	lower, upper, e = shard.Divide(m.shard(), 10)
	check(t, "Divide", result{s: lower, upper: upper, e: e}, result{
		s:     span(8, 10, 10).with(msg(2, 10)).leasing(msg(3, 10), 40).shard(),
		upper: span(8, 11, 19).with(msg(5, 19), msg(9, 14), msg(1, 15)).leasing(msg(4, 14), 30).leasing(msg(7, 15), 20).shard(),
	})
	lower, upper, e = shard.Divide(m.shard(), 18)
	check(t, "Divide", result{s: lower, upper: upper, e: e}, result{
		s:     span(8, 10, 18).with(msg(2, 10), msg(9, 14), msg(1, 15)).leasing(msg(3, 10), 40).leasing(msg(4, 14), 30).leasing(msg(7, 15), 20).shard(),
		upper: span(8, 19, 19).with(msg(5, 19)).shard(),
	})
}

func TestDivideErrors(t *testing.T) {
	for _, c := range [][2]int{{10, 19}, {0, 0}, {7, 7}, {7, 8}, {0, api.Space - 1}, {api.Space - 1, api.Space - 1}} {
		for _, mid := range append([]int{6, 7, 8, 9, 10, 18, 19, 20, api.Space - 2, api.Space - 1, api.Space}, extremes...) {
			want := failure(api.ErrRange)
			if c[0] <= mid && mid < c[1] {
				want = result{s: span(2, c[0], mid).shard(), upper: span(2, mid+1, c[1]).shard()}
			}
			lower, upper, e := shard.Divide(span(2, c[0], c[1]).shard(), mid)
			check(t, "Divide", result{s: lower, upper: upper, e: e}, want)
		}
	}
}

func TestUnite(t *testing.T) {
	a, b := span(9, 10, 19), span(5, 20, 20)
	a.head, b.head = 7, 3
	a = a.with(msg(5, 10), msg(2, 19)).leasing(msg(7, 15), 30).leasing(msg(3, 16), 20)
	b = b.with(msg(9, 20), msg(1, 20)).leasing(msg(4, 20), 5).leasing(msg(8, 20), 25)
	s, e := shard.Unite(a.shard(), b.shard())
	want := a.with(b.ready...).leasing(msg(4, 20), 5).leasing(msg(8, 20), 25)
	want.high = 20
	checkShard(t, "Unite", s, e, want)
	b.capacity, b.head = 8, 7
	s, e = shard.Unite(b.shard(), a.shard())
	want = b.with(a.ready...).leasing(msg(3, 16), 20).leasing(msg(7, 15), 30)
	want.low = 10
	checkShard(t, "Unite the other way", s, e, want)
	s, e = shard.Unite(span(1, 0, 32767).shard(), span(12, 32768, api.Space-1).shard())
	checkShard(t, "Unite to all routes", s, e, span(1, 0, api.Space-1))
}

func TestUniteErrors(t *testing.T) {
	a := span(4, 10, 19).with(msg(1, 10)).leasing(msg(2, 19), 9)
	for _, c := range []struct {
		name string
		b    model
		want api.Errno
	}{
		{"a gap behind", span(4, 21, 29), api.ErrState}, {"a gap before", span(4, 0, 8), api.ErrState},
		{"an overlap behind", span(4, 19, 29), api.ErrState}, {"an overlap before", span(4, 0, 10), api.ErrState},
		{"the same routes", span(4, 10, 19), api.ErrState}, {"within", span(4, 12, 15), api.ErrState}, {"around", span(4, 0, 99), api.ErrState},
		{"the same beginning", span(4, 10, 12), api.ErrState}, {"the same end", span(4, 15, 19), api.ErrState},
		{"behind", span(4, 20, 20), api.OK}, {"before", span(4, 9, 9), api.OK}, {"before, from 0", span(4, 0, 9), api.OK}, {"behind, to the end", span(4, 20, api.Space-1), api.OK},
		{"just as many", span(2, 20, 29).with(msg(3, 20), msg(4, 20)), api.OK},
		{"one ready too many", span(12, 20, 29).with(msg(3, 20), msg(4, 20), msg(5, 20)), api.ErrFull},
		{"one leased too many", span(12, 20, 29).with(msg(3, 20)).leasing(msg(4, 20), 5).leasing(msg(5, 20), 5), api.ErrFull},
		{"too many, and there is a gap", span(12, 21, 29).with(msg(3, 21), msg(4, 21), msg(5, 21)), api.ErrState},
		{"too many, and the same ID", span(12, 20, 29).with(msg(3, 20), msg(1, 20), msg(5, 20)), api.ErrFull},
		{"the same ID, and there is a gap", span(12, 0, 8).with(msg(1, 0)), api.ErrState},
		{"ready twice", span(4, 20, 29).with(msg(3, 20), msg(1, 20)), api.ErrDuplicate},
		{"ready and leased", span(4, 20, 29).leasing(msg(1, 20), 5), api.ErrDuplicate},
		{"leased and ready", span(4, 0, 9).with(msg(2, 0)), api.ErrDuplicate},
		{"leased twice", span(4, 0, 9).leasing(msg(2, 0), 5), api.ErrDuplicate},
	} {
		s, e := shard.Unite(a.shard(), c.b.shard())
		if e != c.want || e != api.OK && !sameShard(s, api.Shard{}) {
			t.Errorf("%s: Unite = %+v, %d, want %d", c.name, s, e, c.want)
		}
	}
	// A shard that is not live has no routes, not even the route 0.
	one := span(4, 1, 9).shard()
	for _, pair := range [][2]api.Shard{{free(4, 0), one}, {one, free(4, 0)}, {free(4, 0), free(4, 0)}} {
		s, e := shard.Unite(pair[0], pair[1])
		check(t, "Unite with a shard that is not live", result{s: s, e: e}, failure(api.ErrState))
	}
	// The capacity is that of the first one.
	s, e := shard.Unite(span(1, 20, 29).shard(), a.shard())
	check(t, "Unite", result{s: s, e: e}, failure(api.ErrFull))
}

// P7.3 to P7.8

// Random calls of all functions, compared with the model. Each function has all of its results often.
func TestRandomCalls(t *testing.T) {
	random := rand.New(rand.NewPCG(7, 8))
	seen := map[string]map[api.Errno]int{}
	for range 20000 {
		m := randomModel(random, 100, 108, 16)
		a := randomArguments(random, m)
		for _, f := range functions {
			if f.name == "Bury" {
				a.k = max(a.k, 0)
			}
			got, want := f.call(m.shard(), a), f.model(m, a)
			if !same(got, want) {
				t.Errorf("%s(%+v, %+v) = %+v,\nwant %+v", f.name, m.shard(), a, got, want)
			}
			if seen[f.name] == nil {
				seen[f.name] = map[api.Errno]int{}
			}
			seen[f.name][want.e]++
		}
		compareCounts(t, m, a)
	}
	for name, errors := range map[string][]api.Errno{
		"Put": {api.OK, api.ErrRange, api.ErrMoved, api.ErrFull, api.ErrDuplicate}, "Take": {api.OK, api.ErrExhausted},
		"Ack": {api.OK, api.ErrInvalid}, "Nack": {api.OK, api.ErrInvalid}, "Change": {api.OK, api.ErrInvalid, api.ErrExhausted},
		"Expire": {api.OK}, "Clean": {api.OK}, "Detach": {api.OK, api.ErrRange}, "Absorb": {api.OK, api.ErrRange, api.ErrFull, api.ErrDuplicate},
		"Divide": {api.OK, api.ErrRange}, "Unite": {api.OK, api.ErrState, api.ErrFull, api.ErrDuplicate}, "Bury": {api.OK},
	} {
		for _, e := range errors {
			if seen[name][e] < 100 {
				t.Errorf("%s returned %d only %d times", name, e, seen[name][e])
			}
		}
		if len(seen[name]) != len(errors) {
			t.Errorf("%s returned other errors: %v", name, seen[name])
		}
	}
}

// compareCounts compares what Stored, Counts and Holds return with the model.
func compareCounts(t *testing.T, m model, a arguments) {
	t.Helper()
	s := m.shard()
	in, _ := m.split(99, func(x api.Message) bool { return x.Epoch >= a.epoch && x.Count < a.limit })
	leased := 0
	for _, l := range m.leased {
		if l.Msg.Epoch >= a.epoch {
			leased++
		}
	}
	if r, l := shard.Counts(s, a.epoch, a.limit); r != len(in) || l != leased {
		t.Errorf("Counts(%+v, %d, %d) = %d, %d, want %d, %d", s, a.epoch, a.limit, r, l, len(in), leased)
	}
	if n := shard.Stored(s); n != m.size() {
		t.Errorf("Stored(%+v) = %d, want %d", s, n, m.size())
	}
	if got, want := shard.Holds(s, a.h, a.now, a.epoch), m.holds(a.h, a.now, a.epoch); got != want {
		t.Errorf("Holds(%+v, %+v, %d, %d) = %v", s, a.h, a.now, a.epoch, got)
	}
}

// Long runs, in which each call works on what the call before returned.
func TestLongRuns(t *testing.T) {
	random := rand.New(rand.NewPCG(7, 4))
	for range 60 {
		m := randomModel(random, 100, 160, 16)
		for range 200 {
			a := randomArguments(random, m)
			a.k = random.IntN(3)
			f := functions[random.IntN(len(functions))]
			got, want := f.call(m.shard(), a), f.model(m, a)
			if !same(got, want) {
				t.Errorf("%s(%+v, %+v) = %+v,\nwant %+v", f.name, m.shard(), a, got, want)
			}
			if want.e == api.OK && want.s.High-want.s.Low > 5 && want.s.High-want.s.Low < 100 {
				m = modelOf(want.s)
			}
			if e := shard.Validate(m.shard()); e != api.OK {
				t.Errorf("%s leaves %+v, which has the error %d", f.name, m.shard(), e)
			}
		}
	}
}

// P7.9

// copies tells how many messages of each ID shards store.
func copies(shards ...api.Shard) map[int]int {
	n := map[int]int{}
	for _, s := range shards {
		for _, x := range s.Ready.Cells {
			n[x.ID]++
		}
		for _, l := range s.Leases.L {
			n[l.Msg.ID]++
		}
	}
	delete(n, 0) // free cells
	return n
}

// named returns the IDs of the messages that a call brings in or takes away.
func named(name string, s api.Shard, a arguments, r result) (in, out []int) {
	switch name {
	case "Put":
		return []int{a.m.ID}, nil
	case "Ack":
		return nil, []int{a.h.ID}
	case "Absorb":
		for _, x := range a.l {
			in = append(in, x.ID)
		}
	case "Detach", "Bury":
		for _, x := range r.messages {
			out = append(out, x.ID)
		}
	case "Clean":
		for _, x := range append(ring.List(s.Ready), messagesOf(s.Leases.L)...) {
			if x.Epoch < a.epoch {
				out = append(out, x.ID)
			}
		}
	}
	return in, out
}

func messagesOf(leases []api.Lease) []api.Message {
	var l []api.Message
	for _, x := range leases {
		l = append(l, x.Msg)
	}
	return l
}

// No function changes how many messages of an ID there are, but for those that it names.
func TestConservation(t *testing.T) {
	random := rand.New(rand.NewPCG(7, 9))
	for range 10000 {
		m := randomModel(random, 100, 108, 16)
		s, a := m.shard(), randomArguments(random, m)
		for _, f := range functions {
			r := f.call(s, a)
			if r.e != api.OK {
				continue
			}
			before := copies(s)
			if f.name == "Unite" {
				before = copies(s, a.other)
			}
			in, out := named(f.name, s, a, r)
			for _, id := range in {
				before[id]++
			}
			for _, id := range out {
				before[id]--
			}
			after := copies(r.s, r.upper)
			for id := range 100 {
				if before[id] != after[id] || after[id] > 1 {
					t.Errorf("%s(%+v, %+v) = %+v: there are %d of %d, want %d", f.name, s, a, r, after[id], id, before[id])
				}
			}
			if shard.Validate(r.s) != api.OK || f.name == "Divide" && shard.Validate(r.upper) != api.OK {
				t.Errorf("%s(%+v, %+v) = %+v, which is not valid", f.name, s, a, r)
			}
		}
	}
}

// holders returns the handles for a message, with all generations and routes near by, that a shard holds.
func holders(s api.Shard, x api.Message, now, epoch int) []api.Handle {
	var l []api.Handle
	for gen := x.Gen - 3; gen <= x.Gen+3; gen++ {
		for route := 98; route <= 110; route++ {
			if h := (api.Handle{ID: x.ID, Gen: gen, Route: route}); shard.Holds(s, h, now, epoch) {
				l = append(l, h)
			}
		}
	}
	return l
}

// What Take leases is held by exactly one handle, until it is settled, lapses or is purged.
func TestExactlyOneHandle(t *testing.T) {
	random := rand.New(rand.NewPCG(7, 7))
	taken := 0
	for range 600 {
		m := randomModel(random, 100, 108, 16)
		now, visibility := random.IntN(5), random.IntN(4)
		s, l, e := shard.Take(m.shard(), 1+random.IntN(6), now, visibility, 0, 3)
		if e != api.OK {
			t.Fatalf("Take = %d", e)
		}
		for _, x := range l {
			taken++
			h := api.Handle{ID: x.Msg.ID, Gen: x.Msg.Gen, Route: x.Msg.Route}
			one := []api.Handle{h}
			for at := now; at < x.Deadline; at++ {
				if got := holders(s, x.Msg, at, x.Msg.Epoch); !slices.Equal(got, one) {
					t.Errorf("at %d, %+v is held by %v", at, x, got)
				}
			}
			wantNone(t, s, x.Msg, x.Deadline, 0)
			wantNone(t, s, x.Msg, now, x.Msg.Epoch+1)
			if visibility == 0 {
				continue
			}
			acked, _ := shard.Ack(s, h, now, 0)
			wantNone(t, acked, x.Msg, now, 0)
			nacked, _ := shard.Nack(s, h, now, 0, 3)
			wantNone(t, nacked, x.Msg, now, 0)
			expired, _, _ := shard.Expire(s, x.Deadline, 0, 3)
			wantNone(t, expired, x.Msg, now, 0)
			changed, _ := shard.Change(s, h, now, 0, 9)
			if got := holders(changed, x.Msg, now+8, 0); !slices.Equal(got, one) {
				t.Errorf("%+v, changed, is held by %v", x, got)
			}
			wantNone(t, changed, x.Msg, now+9, 0)
			other, more, _ := shard.Take(nacked, 6, now, 5, 0, 3)
			for _, y := range more {
				if y.Msg.ID == x.Msg.ID && (y.Msg.Gen != x.Msg.Gen+1 || shard.Holds(other, h, now, 0)) {
					t.Errorf("%+v was taken again as %+v", x, y)
				}
			}
		}
	}
	if taken < 300 {
		t.Errorf("only %d messages were taken", taken)
	}
}

func wantNone(t *testing.T, s api.Shard, x api.Message, now, epoch int) {
	t.Helper()
	if got := holders(s, x, now, epoch); len(got) != 0 {
		t.Errorf("%+v is held by %v at %d in %d", x, got, now, epoch)
	}
}

// Divide and then Unite of the two gives the same messages, in the same order among those of one half.
func TestDivideAndUnite(t *testing.T) {
	random := rand.New(rand.NewPCG(8, 7))
	for range 5000 {
		m := randomModel(random, 100, 108, 16)
		s, mid := m.shard(), 100+random.IntN(8)
		lower, upper, e := shard.Divide(s, mid)
		if e != api.OK {
			t.Fatalf("Divide(%+v, %d) = %d", s, mid, e)
		}
		for i, halves := range [][2]api.Shard{{lower, upper}, {upper, lower}} {
			u, e := shard.Unite(halves[0], halves[1])
			if e != api.OK || u.Low != s.Low || u.High != s.High || len(u.Ready.Cells) != len(s.Ready.Cells) {
				t.Errorf("Unite(%+v, %+v) = %+v, %d", halves[0], halves[1], u, e)
			}
			first, second := m.split(99, func(x api.Message) bool { return (x.Route <= mid) == (i == 0) })
			if got := ring.List(u.Ready); !slices.Equal(got, slices.Concat(first, second)) {
				t.Errorf("Divide(%+v, %d) and Unite: %+v", s, mid, got)
			}
			if !slices.Equal(u.Leases.L, s.Leases.L) || !slices.Equal(deadlines(u), deadlines(s)) {
				t.Errorf("Divide(%+v, %d) and Unite: %+v", s, mid, u.Leases)
			}
		}
	}
}

// deadlines empties the heap of a shard.
func deadlines(s api.Shard) []api.Due {
	var l []api.Due
	h, d, e := due.Pop(s.Leases.Heap)
	for e == api.OK {
		l = append(l, d)
		h, d, e = due.Pop(h)
	}
	return l
}
