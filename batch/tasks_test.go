package batch_test

import (
	"math"
	"slices"
	"testing"

	"shardqueue/api"
	"shardqueue/batch"
)

// starts tests what Start returns.
func starts(t *testing.T, number int, i api.Invocation, s api.Setup, n int, want api.Task, wanted api.Errno) {
	t.Helper()
	before := text(i)
	if x, e := batch.Start(number, i, s, n); e != wanted || text(x) != text(want) {
		t.Errorf("Start(%d, %+v, %+v, %d)\nis   %+v, %d\nwant %+v, %d", number, i, s, n, x, e, want, wanted)
	}
	if text(i) != before {
		t.Errorf("Start has changed its argument: %+v, before %s", i, before)
	}
}

// failsToStart tests that Start returns an error, and nothing else.
func failsToStart(t *testing.T, number int, i api.Invocation, s api.Setup, n int, want api.Errno) {
	t.Helper()
	starts(t, number, i, s, n, api.Task{}, want)
}

// nexts tests what Next returns, and returns it.
func nexts(t *testing.T, x api.Task, r api.Result, n int, want api.Task) api.Task {
	t.Helper()
	before := text(x, r)
	got := batch.Next(x, r, n)
	if text(got) != text(want) {
		t.Errorf("Next(%+v, %+v, %d)\nis   %+v\nwant %+v", x, r, n, got, want)
	}
	if text(x, r) != before {
		t.Errorf("Next has changed its arguments: %+v, %+v, before %s", x, r, before)
	}
	return got
}

// setups returns setups with one number that is at an end of its range, or beyond it, and whether arenas of them exist.
func setups() map[api.Setup]bool {
	all := map[api.Setup]bool{}
	for _, c := range []struct {
		of        func(s *api.Setup) *int
		low, high int
	}{
		{func(s *api.Setup) *int { return &s.Slots }, 2, 6}, // two of them are live
		{func(s *api.Setup) *int { return &s.Live }, 1, 3},
		{func(s *api.Setup) *int { return &s.Capacity }, 1, 12},
		{func(s *api.Setup) *int { return &s.Dead }, 1, 24},
		{func(s *api.Setup) *int { return &s.Limit }, 1, 8},
		{func(s *api.Setup) *int { return &s.Clock }, 0, 1 << 30},
		{func(s *api.Setup) *int { return &s.NextID }, 1, 1 << 30},
		{func(s *api.Setup) *int { return &s.Epoch }, 0, 1 << 16},
	} {
		for _, n := range append(slices.Clone(extremes), c.low-1, c.low, c.high, c.high+1) {
			s := setup
			*c.of(&s) = n
			all[s] = c.low <= n && n <= c.high
		}
	}
	return all
}

// dirty returns a task in which the program has left something in each of its fields.
func dirty(x api.Task) api.Task {
	x.PC, x.Slot, x.ID, x.Loaded = 3, 2, 1, 9
	x.Sec = api.Section{
		Phase: 9, At: 1, Lock: api.Locker{Cells: []int{0, 1}, Phase: 5, Have: 2, Tries: 3, Wait: 4}, Snap: api.Snapshot{Phase: 3, Epoch: 1, Clock: 2, Stamp: 3},
		Shards: []api.Shard{{High: 7}}, Dead: api.Dead{Cap: 4}, Stripes: []api.Stripe{{Seq: 3}}, Dir: api.Directory{Version: 5}, Out: api.Outcome{Order: []int{0}}, Limit: 6, Carry: []api.Message{{ID: 7}},
	}
	x.Dir = api.Directory{Version: 2, L: []api.Span{{High: 9, Shard: 1}}, Forward: []int{-1, 0}}
	x.Walk, x.Handle = api.Walk{Next: 1, Covered: 2}, api.Handle{ID: 1, Gen: 2, Route: 3, Hint: 4}
	x.First, x.Second = []api.Stripe{{Seq: 1}, {Ready: 2}}, []api.Stripe{{Seq: 3}, {Leased: 4}}
	return x
}

// resultOf returns a result without a zero in it, which differs from those with other numbers.
func resultOf(n int) api.Result {
	return api.Result{Err: api.Errno(n%13 + 1), ID: n + 1, Tokens: [][]byte{{byte(n), 1}, {byte(n), 2}}, Bodies: []string{"b", string(rune('a' + n%26))}, Ready: n + 2, Leased: n + 3, Moved: n + 4}
}

// sized returns a valid operation of a kind with some entries, or nothing if the kind does not have so many.
func sized(kind, entries int) (api.Invocation, bool) {
	i := valid(kind)
	switch kind {
	case api.OpSend:
		i.Bodies = slices.Repeat([]string{"b"}, entries)
	case api.OpAck, api.OpNack, api.OpChange:
		i.Tokens = slices.Repeat([][]byte{{4, 5}}, entries)
	default:
		return i, entries == 1
	}
	return i, true
}

// P17.3

func TestStart(t *testing.T) {
	for kind := 1; kind <= 14; kind++ {
		for _, number := range []int{1, 2, 7, 199, 200} {
			for _, n := range []int{0, 1, 4, 200, 201, 1 << 31, math.MaxInt} {
				i := valid(kind)
				starts(t, number, i, setup, n, api.Task{Number: number, Inv: i, Invoked: n, Setup: setup}, api.OK)
			}
		}
	}
	send := api.Invocation{Kind: api.OpSend, Bodies: []string{"a", "b"}}
	starts(t, 200, send, setup, 4, api.Task{Number: 200, Inv: send, Invoked: 4, Setup: setup}, api.OK)
}

func TestStartWithOtherNumbers(t *testing.T) {
	for _, n := range extremes {
		if n < 1 || n > 200 {
			failsToStart(t, n, valid(1), setup, 4, api.ErrRange)
		} else {
			starts(t, n, valid(1), setup, 4, api.Task{Number: n, Inv: valid(1), Invoked: 4, Setup: setup}, api.OK)
		}
		if n < 0 {
			failsToStart(t, 7, valid(1), setup, n, api.ErrRange)
		} else {
			starts(t, 7, valid(1), setup, n, api.Task{Number: 7, Inv: valid(1), Invoked: n, Setup: setup}, api.OK)
		}
	}
}

// A task can be started just if there is an arena for its setup.
func TestStartWithOtherSetups(t *testing.T) {
	for s, exists := range setups() {
		for _, i := range []api.Invocation{{Kind: 6}, {Kind: 1, Bodies: []string{"a"}}, {Kind: 12}} {
			if exists {
				starts(t, 7, i, s, 4, api.Task{Number: 7, Inv: i, Invoked: 4, Setup: s}, api.OK)
			} else {
				failsToStart(t, 7, i, s, 4, api.ErrRange)
			}
		}
	}
}

// Slots and live ones together.
func TestStartWithSlots(t *testing.T) {
	for slots := -1; slots <= 8; slots++ {
		for live := -1; live <= 8; live++ {
			s := withSlots(slots)
			s.Live = live
			i := api.Invocation{Kind: api.OpExpire, From: slots - 1}
			if 1 <= live && live <= slots && slots <= 6 {
				starts(t, 7, i, s, 4, api.Task{Number: 7, Inv: i, Invoked: 4, Setup: s}, api.OK)
				i.From++
				failsToStart(t, 7, i, s, 4, api.ErrRange)
			} else {
				failsToStart(t, 7, i, s, 4, api.ErrRange)
			}
		}
	}
}

// The error of Validate is that of Start.
func TestStartOfInvalidOperations(t *testing.T) {
	for _, i := range []api.Invocation{
		{}, {Kind: -1}, {Kind: 15}, {Kind: math.MaxInt}, {Kind: 1}, {Kind: 1, Bodies: make([]string, 7)}, {Kind: 2}, {Kind: 2, Home: 3, Max: 1},
		{Kind: 3}, {Kind: 4}, {Kind: 5}, {Kind: 5, Tokens: make([][]byte, 1), Visibility: -1}, {Kind: 8}, {Kind: 9}, {Kind: 10}, {Kind: 11}, {Kind: 12, From: 3}, {Kind: 13, From: 4}, {Kind: 14, From: 3},
	} {
		want := batch.Validate(i, setup)
		if want == api.OK {
			t.Errorf("%+v is valid", i)
		}
		failsToStart(t, 7, i, setup, 4, want)
	}
}

// With several faults, the error is that of the first one: a number, the setup, the operation.
func TestStartWithSeveralFaults(t *testing.T) {
	other := setup
	other.Capacity = 13
	for _, i := range []api.Invocation{valid(1), {}, {Kind: 15}, {Kind: 1}, {Kind: 5, Visibility: -1}, {Kind: 2}} {
		for _, s := range []api.Setup{setup, other, {}} {
			for _, number := range []int{7, 0, 201} {
				for _, n := range []int{4, -1} {
					switch {
					case number != 7 || n < 0 || s != setup:
						failsToStart(t, number, i, s, n, api.ErrRange)
					case i.Kind != 1 || i.Bodies == nil:
						failsToStart(t, number, i, s, n, batch.Validate(i, setup))
					default:
						starts(t, number, i, s, n, api.Task{Number: 7, Inv: i, Invoked: 4, Setup: s}, api.OK)
					}
				}
			}
		}
	}
}

func TestNext(t *testing.T) {
	x := dirty(api.Task{Number: 7, Inv: valid(1), Invoked: 4, Setup: setup})
	want := api.Task{Number: 7, Inv: valid(1), Invoked: 4, Setup: setup, Entry: 1, Results: []api.Result{resultOf(0)}}
	x = nexts(t, x, resultOf(0), 20, want)
	want.Entry, want.Results = 2, []api.Result{resultOf(0), {Err: api.ErrFull}}
	x = nexts(t, dirty(x), api.Result{Err: api.ErrFull}, 33, want)
	want.Entry, want.Results = 3, []api.Result{resultOf(0), {Err: api.ErrFull}, resultOf(2)}
	want.Done, want.Ended = true, 33
	nexts(t, dirty(x), resultOf(2), 33, want)
}

// Each field that the program uses becomes zero, also if it is the only one that is not.
func TestNextForgets(t *testing.T) {
	full := dirty(api.Task{})
	for _, keep := range []func(x *api.Task){
		func(x *api.Task) { x.PC = full.PC },
		func(x *api.Task) { x.Sec = full.Sec },
		func(x *api.Task) { x.Dir = full.Dir },
		func(x *api.Task) { x.Walk = full.Walk },
		func(x *api.Task) { x.Slot = full.Slot },
		func(x *api.Task) { x.ID = full.ID },
		func(x *api.Task) { x.Handle = full.Handle },
		func(x *api.Task) { x.Loaded = full.Loaded },
		func(x *api.Task) { x.First = full.First },
		func(x *api.Task) { x.Second = full.Second },
	} {
		x := api.Task{Number: 7, Inv: valid(3), Invoked: 4, Setup: setup}
		want := x
		want.Entry, want.Results = 1, []api.Result{{}}
		keep(&x)
		nexts(t, x, api.Result{}, 20, want)
	}
}

// Next does not examine a task: also one that does not come from here goes on to the next entry, and is done if it was done before.
func TestNextOfOtherTasks(t *testing.T) {
	for kind := -1; kind <= 16; kind++ {
		for entry := -2; entry <= 6; entry++ {
			for _, done := range []bool{false, true} {
				x := api.Task{Number: 300, Inv: valid(kind), Invoked: 40, Done: done, Ended: 9, Entry: entry, Results: []api.Result{resultOf(5), resultOf(6)}, Setup: api.Setup{Slots: 9}}
				want := x
				want.Entry, want.Results = entry+1, []api.Result{resultOf(5), resultOf(6), resultOf(7)}
				entries, ok := map[int]int{1: 3, 3: 4, 4: 4, 5: 4}[kind]
				if !ok {
					entries = 1
				}
				if want.Entry == entries {
					want.Done, want.Ended = true, 20
				}
				nexts(t, dirty(x), resultOf(7), 20, want)
			}
		}
	}
}

// The number of the step is what Ended becomes, whatever it is.
func TestNextAtEachStep(t *testing.T) {
	for _, n := range extremes {
		x := api.Task{Number: 7, Inv: valid(7), Invoked: 4, Setup: setup}
		want := x
		want.Entry, want.Results, want.Done, want.Ended = 1, []api.Result{{Ready: 2}}, true, n
		nexts(t, x, api.Result{Ready: 2}, n, want)
		x.Inv, want.Inv = valid(1), valid(1)
		want.Done, want.Ended = false, 0
		nexts(t, x, api.Result{Ready: 2}, n, want)
	}
}

// P17.4

// A task of each kind with each number of entries, from its start to its end.
func TestRuns(t *testing.T) {
	for kind := 1; kind <= 14; kind++ {
		for entries := 1; entries <= 6; entries++ {
			i, ok := sized(kind, entries)
			if !ok {
				continue
			}
			x, e := batch.Start(7, i, setup, 4)
			if e != api.OK || x.Done || len(x.Results) != 0 {
				t.Errorf("Start of %+v: %+v, %d", i, x, e)
			}
			want := api.Task{Number: 7, Inv: i, Invoked: 4, Setup: setup}
			for n := range entries {
				want.Entry, want.Results = n+1, append(want.Results, resultOf(n))
				if n == entries-1 {
					want.Done, want.Ended = true, 10*n+5
				}
				x = nexts(t, dirty(x), resultOf(n), 10*n+5, want)
			}
			if !x.Done || len(x.Results) != entries || x.Entry != entries {
				t.Errorf("the end of %+v: %+v", i, x)
			}
		}
	}
}
