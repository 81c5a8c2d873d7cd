package locker_test

import (
	"math"
	"math/rand/v2"
	"reflect"
	"slices"
	"testing"

	"shardqueue/api"
	"shardqueue/locker"
)

// room is the memory of a list, with the room behind it.
type room struct{ from, to uintptr }

// rooms returns the memory of all lists in a value.
func rooms(v reflect.Value) []room {
	var l []room
	switch v.Kind() {
	case reflect.Slice:
		if v.Cap() > 0 {
			l = append(l, room{v.Pointer(), v.Pointer() + uintptr(v.Cap())*v.Type().Elem().Size()})
		}
		for i := range v.Len() {
			l = append(l, rooms(v.Index(i))...)
		}
	case reflect.Struct:
		for i := range v.NumField() {
			l = append(l, rooms(v.Field(i))...)
		}
	}
	return l
}

// roomsOf returns the memory of all lists in an arena and a locker.
func roomsOf(a api.Arena, l api.Locker) []room {
	return append(rooms(reflect.ValueOf(a)), rooms(reflect.ValueOf(l))...)
}

// separate reports whether no list of a result has memory of another one, or of an argument.
func separate(result, arguments []room) bool {
	for i, x := range result {
		for _, y := range append(slices.Clone(result[:i]), arguments...) {
			if x.from < y.to && y.from < x.to {
				return false
			}
		}
	}
	return true
}

// active are lockers of the task 5, one for each thing that a step can do in the world of the task 5 or of nobody.
func active() []api.Locker {
	return []api.Locker{
		{Cells: []int{1, 3, 6}, Phase: api.LockTrying},
		{Cells: []int{1, 3, 6}, Phase: api.LockTrying, Have: 1, Tries: 2},
		{Cells: []int{1, 3, 6}, Phase: api.LockTrying, Have: 2, Tries: 2},
		{Cells: []int{1, 3, 6}, Phase: api.LockLeaving, Have: 2, Tries: 2},
		{Cells: []int{1, 3, 6}, Phase: api.LockLeaving, Have: 1, Tries: 2},
		{Cells: []int{1, 3, 6}, Phase: api.LockPausing, Tries: 2, Wait: 2},
		{Cells: []int{1, 3, 6}, Phase: api.LockPausing, Tries: 2, Wait: 1},
		{Cells: []int{1, 3, 6}, Phase: api.LockHolding, Have: 3},
		{Cells: []int{1, 3, 6}, Phase: api.LockFreeing, Have: 3, Tries: 2},
		{Cells: []int{1, 3, 6}, Phase: api.LockFreeing, Have: 1, Tries: 2},
		{Cells: []int{1, 3, 6}, Phase: api.LockFree, Tries: 2},
	}
}

// roomy returns a copy of a list with numbers behind it that an append in place would write to.
func roomy(l []int) []int {
	return append(slices.Clone(l), 77, 78, 79)[:len(l)]
}

// LANGUAGE.md 7: a result shares no memory with an argument, and no two of its lists share memory.
func TestNothingIsShared(t *testing.T) {
	for _, l := range active() {
		for _, owner := range []int{nobody, 5} {
			a := world(owner)
			nextArena, next, _ := locker.Step(a, l, 5)
			if !separate(roomsOf(nextArena, next), roomsOf(a, l)) {
				t.Errorf("Step of %+v shares memory", l)
			}
		}
		next, _ := locker.Free(l)
		if !separate(roomsOf(api.Arena{}, next), roomsOf(api.Arena{}, l)) {
			t.Errorf("Free of %+v shares memory", l)
		}
	}
	for _, cells := range lists(6) {
		cells = roomy(cells)
		l, _ := locker.New(cells)
		if !separate(roomsOf(api.Arena{}, l), rooms(reflect.ValueOf(cells))) {
			t.Errorf("New(%v) shares memory", cells)
		}
	}
}

// R2: no function writes to the room behind the cells either.
func TestArgumentsStay(t *testing.T) {
	for _, l := range active() {
		l.Cells = roomy(l.Cells)
		before := slices.Clone(l.Cells[:cap(l.Cells)])
		for _, owner := range []int{nobody, 5} {
			locker.Step(world(owner), l, 5)
			locker.Free(l)
			locker.New(l.Cells)
			if after := l.Cells[:cap(l.Cells)]; !slices.Equal(after, before) {
				t.Errorf("the cells %v are %v after the calls with %+v", before, after, l)
			}
		}
	}
}

// R2: what was returned once stays as it is, whatever is done with it.
func TestResultsStay(t *testing.T) {
	random := rand.New(rand.NewPCG(13, 5))
	c := newCrowd(t, 6, []int{0, 2, 6}, []int{0, 6}, []int{2, 5, 6}, []int{2, 6})
	var all []crowd
	var before []string
	for !c.allOver() {
		all, before = append(all, c), append(before, text(c))
		if i := random.IntN(4); !c.over(i) {
			c = c.step(t, i)
		}
	}
	if len(all) < 28 {
		t.Errorf("%d steps", len(all))
	}
	for i := range all {
		if text(all[i]) != before[i] {
			t.Errorf("after step %d: %s, before %s", i, text(all[i]), before[i])
		}
	}
}

// R2 and R3: a result depends neither on what was done before, nor on whether an empty list is nil, nor on the room behind a list.
func TestEqualArguments(t *testing.T) {
	for _, l := range active() {
		for _, owner := range []int{nobody, 5} {
			a := world(owner)
			wantArena, want, wanted := locker.Step(a, l, 5)
			for range 3 {
				x := world(owner)
				x.Slots[1].Shard.Leases = api.Table{L: []api.Lease{}, Heap: make([]api.Due, 0, 3)}
				l.Cells = roomy(l.Cells)
				if gotArena, got, e := locker.Step(x, l, 5); e != wanted || text(gotArena, got) != text(wantArena, want) {
					t.Errorf("Step of %+v: %s, %d, and before %s, %d", l, text(gotArena, got), e, text(wantArena, want), wanted)
				}
			}
		}
	}
}

// strangers are arenas of other setups, and some that do not come from package arena.
func strangers() []api.Arena {
	l := []api.Arena{world(nobody), world(5), small(1), {}, {Slots: make([]api.Slot, 1000)}, {Stripes: make([]api.Stripe, 3)}, {Dead: api.DeadCell{Owner: 5}}}
	for _, owner := range []int{math.MinInt, -1, 201, math.MaxInt} {
		l = append(l, world(owner))
	}
	return l
}

// checkTotal tests that Step and Free return, and with an error nothing else.
func checkTotal(t *testing.T, a api.Arena, l api.Locker, task int) {
	t.Helper()
	before := text(l)
	if nextArena, next, e := locker.Step(a, l, task); e != api.OK && text(nextArena, next) != text(api.Arena{}, api.Locker{}) {
		t.Errorf("Step of %+v by the task %d returns %+v, %+v, %d", l, task, nextArena, next, e)
	}
	if next, e := locker.Free(l); e != api.OK && text(next) != text(api.Locker{}) {
		t.Errorf("Free(%+v) returns %+v, %d", l, next, e)
	}
	if text(l) != before {
		t.Errorf("the locker %s was changed: %+v", before, l)
	}
}

// R1: every function returns for all arguments, also with lockers that do not come from this package.
func TestAllArguments(t *testing.T) {
	for _, cells := range [][]int{nil, {3}, {1, 3, 6}, {6, 3, 3, -1}, {math.MinInt, math.MaxInt}, make([]int, 1000)} {
		for phase := -1; phase <= 6; phase++ {
			for _, n := range append([]int{999, 1000, 1001}, extremes...) {
				for _, a := range strangers() {
					checkTotal(t, a, api.Locker{Cells: cells, Phase: phase, Have: n}, 5)
					checkTotal(t, a, api.Locker{Cells: cells, Phase: phase, Have: 1, Tries: n, Wait: n}, 5)
					checkTotal(t, a, api.Locker{Cells: cells, Phase: phase, Have: n, Tries: n, Wait: n}, n)
				}
			}
		}
	}
	for _, phase := range extremes {
		checkTotal(t, world(5), api.Locker{Cells: []int{1, 3, 6}, Phase: phase, Have: 1, Tries: 1, Wait: 1}, 5)
	}
}

// A locker in a phase that does not exist has no step.
func TestOtherPhases(t *testing.T) {
	for _, phase := range extremes {
		if phase < 0 || phase > 5 {
			fails(t, world(5), api.Locker{Cells: []int{1, 3, 6}, Phase: phase, Have: 1, Wait: 1}, 5, api.ErrState)
		}
	}
}
