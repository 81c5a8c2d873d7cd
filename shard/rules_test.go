package shard_test

import (
	"math/rand/v2"
	"slices"
	"testing"

	"shardqueue/api"
	"shardqueue/shard"
)

// junk is what foreign memory is filled with.
var (
	junkMessage = api.Message{ID: 77, Route: 7, Gen: 7, Body: "junk"}
	junkLease   = api.Lease{Msg: junkMessage, Deadline: 77}
	junkDue     = api.Due{Deadline: 77, ID: 77}
)

// fill fills a list, and the room behind it.
func fill[E any](l []E, junk E) {
	l = l[:cap(l)]
	for i := range l {
		l[i] = junk
	}
}

// roomy returns a copy of a list, with room behind it that an append in place would write to.
func roomy[E any](l []E, junk E) []E {
	return append(slices.Clone(l), junk, junk)[:len(l)]
}

func roomyShard(s api.Shard) api.Shard {
	s.Ready.Cells = roomy(s.Ready.Cells, junkMessage)
	s.Leases.L, s.Leases.Heap = roomy(s.Leases.L, junkLease), roomy(s.Leases.Heap, junkDue)
	return s
}

func roomyArguments(a arguments) arguments {
	a.l, a.other = roomy(a.l, junkMessage), roomyShard(a.other)
	return a
}

// wide returns a shard with its lists and the room behind them.
func wide(s api.Shard) api.Shard {
	s.Ready.Cells = slices.Clone(s.Ready.Cells[:cap(s.Ready.Cells)])
	s.Leases.L, s.Leases.Heap = slices.Clone(s.Leases.L[:cap(s.Leases.L)]), slices.Clone(s.Leases.Heap[:cap(s.Leases.Heap)])
	return s
}

// partsOfShard returns functions that each fill one list of a shard.
func partsOfShard(s api.Shard) []func() {
	return []func(){
		func() { fill(s.Ready.Cells, junkMessage) },
		func() { fill(s.Leases.L, junkLease) },
		func() { fill(s.Leases.Heap, junkDue) },
	}
}

// parts returns functions that each fill one list of a result.
func parts(r result) []func() {
	return slices.Concat(partsOfShard(r.s), partsOfShard(r.upper), []func(){
		func() { fill(r.messages, junkMessage) },
		func() { fill(r.leases, junkLease) },
		func() { fill(r.ids, 77) },
	})
}

// lists returns the lists of a result, apart from one of them, as a result without the other fields.
func lists(r result, without int) result {
	r = cloneResult(r)
	r = result{s: api.Shard{Ready: api.Ring{Cells: r.s.Ready.Cells}, Leases: r.s.Leases}, upper: api.Shard{Ready: api.Ring{Cells: r.upper.Ready.Cells}, Leases: r.upper.Leases}, messages: r.messages, leases: r.leases, ids: r.ids}
	switch without {
	case 0:
		r.s.Ready.Cells = nil
	case 1:
		r.s.Leases.L = nil
	case 2:
		r.s.Leases.Heap = nil
	case 3:
		r.upper.Ready.Cells = nil
	case 4:
		r.upper.Leases.L = nil
	case 5:
		r.upper.Leases.Heap = nil
	case 6:
		r.messages = nil
	case 7:
		r.leases = nil
	default:
		r.ids = nil
	}
	return r
}

// R2: no function changes its arguments, and the lists of a result are new memory, each one its own.
func TestNothingIsShared(t *testing.T) {
	random := rand.New(rand.NewPCG(2, 7))
	for range 1500 {
		m := randomModel(random, 100, 108, 16)
		a := roomyArguments(randomArguments(random, m))
		s := roomyShard(m.shard())
		oldS, oldOther, oldL := wide(s), wide(a.other), slices.Clone(a.l[:cap(a.l)])
		unchanged := func() bool {
			return sameShard(wide(s), oldS) && sameShard(wide(a.other), oldOther) && slices.Equal(a.l[:cap(a.l)], oldL)
		}
		for _, f := range functions {
			for i, spoil := range parts(f.call(s, a)) {
				spoil()
				if !unchanged() {
					t.Fatalf("%s changes its arguments, or list %d of its result shares memory with them", f.name, i)
				}
			}
			for i := range 9 {
				r := f.call(s, a)
				before := lists(r, i)
				parts(r)[i]()
				if !same(lists(r, i), before) {
					t.Errorf("%s: list %d of the result shares memory with another one", f.name, i)
				}
			}
			first, second := f.call(s, a), f.call(s, a)
			before := cloneResult(second)
			for _, spoil := range parts(first) {
				spoil()
			}
			if !same(second, before) {
				t.Errorf("%s: a result shares memory with another one", f.name)
			}
			spoilt, args := roomyShard(s), roomyArguments(a)
			third := f.call(spoilt, args)
			for _, spoil := range append(partsOfShard(spoilt), partsOfShard(args.other)...) {
				spoil()
			}
			fill(args.l, junkMessage)
			if !same(third, before) {
				t.Errorf("%s: a result shares memory with the arguments", f.name)
			}
		}
		shard.Validate(s)
		shard.Stored(s)
		shard.Owns(s, 100)
		shard.Counts(s, a.epoch, a.limit)
		shard.Holds(s, a.h, a.now, a.epoch)
		if !unchanged() {
			t.Fatal("a function changes its argument")
		}
	}
}

// What an earlier call returned does not change when it is used again.
func TestEarlierResultsStay(t *testing.T) {
	random := rand.New(rand.NewPCG(2, 8))
	for range 200 {
		m := randomModel(random, 100, 108, 16)
		s := m.shard()
		type kept struct{ r, copy result }
		var all []kept
		for range 20 {
			a := randomArguments(random, modelOf(s))
			for _, f := range functions {
				r := f.call(s, a)
				all = append(all, kept{r, cloneResult(r)})
			}
			last := all[len(all)-1-random.IntN(len(functions))].r
			if last.e == api.OK && last.s.High > last.s.Low {
				s = last.s
			}
		}
		for _, k := range all {
			if !same(k.r, k.copy) {
				t.Errorf("a result was changed to %+v from %+v", k.r, k.copy)
			}
		}
	}
}

// R2 and R3: a result depends neither on whether an empty list is nil nor on the room behind a list.
func TestEqualArguments(t *testing.T) {
	random := rand.New(rand.NewPCG(2, 3))
	for range 1000 {
		m := randomModel(random, 100, 108, 16)
		a := randomArguments(random, m)
		s := m.shard()
		for _, f := range functions {
			if first, second := f.call(s, a), f.call(roomyShard(s), roomyArguments(a)); !same(first, second) {
				t.Errorf("%s(%+v, %+v) = %+v, and then %+v", f.name, s, a, first, second)
			}
		}
	}
	none, empty := span(2, 10, 99).shard(), span(2, 10, 99).shard()
	none.Leases = api.Table{}
	empty.Leases = api.Table{L: []api.Lease{}, Heap: []api.Due{}}
	for _, f := range functions {
		if first, second := f.call(none, good()), f.call(empty, good()); !same(first, second) {
			t.Errorf("%s without leases = %+v, and then %+v", f.name, first, second)
		}
	}
}

// R1 and R4: every function returns for all arguments, and with an error nothing else.
func TestAllArguments(t *testing.T) {
	for _, n := range extremes {
		for _, k := range extremes {
			x := api.Message{ID: n, Route: k, Epoch: n, Count: k, Gen: n, Sent: k}
			table := api.Table{L: []api.Lease{{Msg: x, Deadline: n}}, Heap: []api.Due{{Deadline: n, ID: k}}}
			many := api.Table{L: slices.Repeat(table.L, 1000), Heap: slices.Repeat(table.Heap, 1000)}
			for _, s := range []api.Shard{
				{}, {Live: true, Low: n, High: k}, free(12, 3), base().shard(), mixed().shard(),
				{Live: true, Low: n, High: k, Ready: base().shard().Ready, Leases: base().shard().Leases},
				{Live: true, High: 9, Ready: api.Ring{Cells: []api.Message{x}, Head: n, Size: k}},
				{Live: true, High: 9, Ready: api.Ring{Cells: []api.Message{x}, Size: 1}, Leases: table},
				{Live: true, High: 9, Ready: api.Ring{Cells: make([]api.Message, 12)}, Leases: table},
				{Low: n, High: k, Ready: api.Ring{Cells: make([]api.Message, 1000), Head: n, Size: k}, Leases: many},
				{Live: true, Low: n, High: k, Ready: api.Ring{Cells: make([]api.Message, 2)}, Leases: many},
			} {
				callAll(t, s, arguments{m: x, h: api.Handle{ID: n, Gen: k, Route: n, Hint: k}, l: slices.Repeat([]api.Message{x}, 1000), other: base().shard(), max: n, now: k, visibility: n, epoch: k, limit: n, k: k, mid: n})
				callAll(t, s, arguments{m: x, h: handleOf(msg(7, 10)), l: []api.Message{x}, other: s, max: 3, now: n, visibility: 5, epoch: 1, limit: 3, k: n, mid: k})
			}
		}
	}
}

func callAll(t *testing.T, s api.Shard, a arguments) {
	t.Helper()
	e := shard.Validate(s)
	n := shard.Stored(s)
	ready, leased := shard.Counts(s, a.epoch, a.limit)
	if e != api.OK && (n != 0 || ready != 0 || leased != 0 || shard.Owns(s, a.now) || shard.Holds(s, a.h, a.now, a.epoch)) {
		t.Errorf("%+v, which is not valid, has a part", s)
	}
	if ready+leased > n {
		t.Errorf("Counts(%+v) = %d, %d", s, ready, leased)
	}
	for _, f := range functions {
		r := f.call(s, a)
		if r.e != api.OK && !same(r, failure(r.e)) {
			t.Errorf("%s(%+v, %+v) = %+v", f.name, s, a, r)
		}
		if e != api.OK && r.e == api.OK {
			t.Errorf("%s(%+v, %+v) succeeds", f.name, s, a)
		}
		if r.e == api.OK && shard.Validate(r.s) != api.OK {
			t.Errorf("%s(%+v, %+v) = %+v, which is not valid", f.name, s, a, r)
		}
	}
	for _, n := range []int{a.max, a.now, a.k} {
		x, e := shard.New(n, a.k, a.now)
		y, e2 := shard.Free(n)
		if e != api.OK && !sameShard(x, api.Shard{}) || e2 != api.OK && !sameShard(y, api.Shard{}) {
			t.Errorf("New or Free of %d = %+v, %d, %+v, %d", n, x, e, y, e2)
		}
	}
}
