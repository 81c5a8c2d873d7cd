package section_test

import (
	"math"
	"reflect"
	"slices"
	"testing"

	"shardqueue/api"
	"shardqueue/section"
)

// room is the memory of a list, with the room behind it.
type room struct{ from, to uintptr }

// rooms returns the memory of all lists in a value.
func rooms(v reflect.Value) []room {
	var l []room
	switch v.Kind() {
	case reflect.Slice:
		if v.Cap() > 0 {
			l = append(l, room{v.Pointer(), v.Pointer() + uintptr(v.Cap())*v.Type().Elem().Size()})
		}
		for i := range v.Len() {
			l = append(l, rooms(v.Index(i))...)
		}
	case reflect.Struct:
		for i := range v.NumField() {
			l = append(l, rooms(v.Field(i))...)
		}
	}
	return l
}

// roomsOf returns the memory of all lists in some values.
func roomsOf(values ...any) []room {
	var l []room
	for _, v := range values {
		l = append(l, rooms(reflect.ValueOf(v))...)
	}
	return l
}

// separate reports whether no list of a result has memory of another one, or of an argument.
func separate(result, arguments []room) bool {
	for i, x := range result {
		for _, y := range append(slices.Clone(result[:i]), arguments...) {
			if x.from < y.to && y.from < x.to {
				return false
			}
		}
	}
	return true
}

// stretched returns a copy of a value in which no list is nil, and each list has room behind it that an append in place would write to.
func stretched(v reflect.Value) reflect.Value {
	x := reflect.New(v.Type()).Elem()
	x.Set(v)
	switch v.Kind() {
	case reflect.Slice:
		x.Set(reflect.MakeSlice(v.Type(), v.Len(), v.Len()+3))
		for i := range v.Len() {
			x.Index(i).Set(stretched(v.Index(i)))
		}
	case reflect.Struct:
		for i := range v.NumField() {
			x.Field(i).Set(stretched(v.Field(i)))
		}
	}
	return x
}

func roomy[T any](v T) T {
	return stretched(reflect.ValueOf(v)).Interface().(T)
}

// behind writes the lists of a value with what is in the room behind them.
func behind(v reflect.Value) string {
	var all string
	switch v.Kind() {
	case reflect.Slice:
		all = text(v.Slice(0, v.Cap()).Interface())
		for i := range v.Len() {
			all += behind(v.Index(i))
		}
	case reflect.Struct:
		for i := range v.NumField() {
			all += behind(v.Field(i))
		}
	}
	return all
}

// busy returns the stages of sections that store all of their cells and change the directory.
func busy(t *testing.T) []stage {
	t.Helper()
	var l []stage
	for _, cells := range [][]int{{3}, {0, 2}, {0, 2, 3}} {
		c := newCourse(t, 3, cells, 3, 7)
		c.prepares()
		l = append(l, stage{c.a, c.s, 5})
		c.ends(outcome(len(c.slots()), orders(len(cells))[len(orders(len(cells)))-1], someEdits(3)[1]...))
		l = append(l, c.stages...)
	}
	return l
}

// LANGUAGE.md 7: a result shares no memory with an argument, and no two of its lists share memory.
func TestNothingIsShared(t *testing.T) {
	for _, x := range busy(t) {
		a, s, _ := section.Step(x.a, x.s, 7, x.n)
		if !separate(roomsOf(a, s), roomsOf(x.a, x.s)) {
			t.Errorf("Step of %+v shares memory", x.s)
		}
		o := outcome(len(x.s.Shards), []int{0}, api.Edit{})
		decided, _ := section.Decide(x.s, o)
		if !separate(roomsOf(decided), roomsOf(x.s, o)) {
			t.Errorf("Decide of %+v shares memory", x.s)
		}
		if o := section.Unchanged(x.s); !separate(roomsOf(o), roomsOf(x.s)) {
			t.Errorf("Unchanged of %+v shares memory", x.s)
		}
	}
	for _, cells := range lists(6) {
		if s, _ := section.New(cells, 3); !separate(roomsOf(s), roomsOf(cells)) {
			t.Errorf("New(%v) shares memory", cells)
		}
	}
}

// R2: no function writes to the lists of its arguments, or to the room behind them.
func TestArgumentsStay(t *testing.T) {
	for _, x := range busy(t) {
		a, s, o := roomy(x.a), roomy(x.s), roomy(outcome(len(x.s.Shards), []int{0}, api.Edit{}))
		write := func() string {
			return text(a, s, o) + behind(reflect.ValueOf(a)) + behind(reflect.ValueOf(s)) + behind(reflect.ValueOf(o))
		}
		before := write()
		section.Step(a, s, 7, x.n)
		section.Decide(s, o)
		section.Unchanged(s)
		section.New(s.Lock.Cells, 3)
		if write() != before {
			t.Errorf("the arguments have changed: %s, before %s", write(), before)
		}
	}
}

// R2: what was returned once stays as it is, whatever is done with it.
func TestResultsStay(t *testing.T) {
	c := newCrowd(t, 3).begin(t, []int{0, 2}, split(0)).begin(t, []int{1, 3}, bury).begin(t, []int{0, 3}, redrive)
	var l []crowd
	var before []string
	for n := 0; !c.allOver() && n < 1000; n++ {
		l, before = append(l, c), append(before, text(c.a, c.l))
		if i := n * n % 3; !c.over(i) {
			c = c.step(t, i)
		}
		if i := n % 3; !c.over(i) {
			c = c.step(t, i)
		}
	}
	if len(l) < 20 || !c.allOver() {
		t.Errorf("%d times: %+v", len(l), c)
	}
	for i := range l {
		if text(l[i].a, l[i].l) != before[i] {
			t.Errorf("after %d times: %+v, before %s", i, l[i], before[i])
		}
	}
}

// R2 and R3: a result depends neither on what was done before, nor on whether an empty list is nil, nor on the room behind a list.
func TestEqualArguments(t *testing.T) {
	for _, x := range busy(t) {
		wantArena, want, wanted := section.Step(x.a, x.s, 7, x.n)
		o := outcome(len(x.s.Shards), nil)
		wantDecided, wantError := section.Decide(x.s, o)
		for range 3 {
			a, s := roomy(x.a), roomy(x.s)
			if gotArena, got, e := section.Step(a, s, 7, x.n); e != wanted || text(gotArena, got) != text(wantArena, want) {
				t.Errorf("Step of %+v: %s, %d, and before %s, %d", x.s, text(gotArena, got), e, text(wantArena, want), wanted)
			}
			if got, e := section.Decide(s, roomy(o)); e != wantError || text(got) != text(wantDecided) {
				t.Errorf("Decide of %+v: %+v, %d, and before %+v, %d", x.s, got, e, wantDecided, wantError)
			}
			if got := section.Unchanged(s); text(got) != text(section.Unchanged(x.s)) {
				t.Errorf("Unchanged of %+v: %+v", x.s, got)
			}
		}
	}
}

// strangers are arenas of other setups, and some that do not come from package arena.
func strangers() []api.Arena {
	full := world(3)
	for cell := range 4 {
		setOwner(&full, cell, 7)
	}
	return []api.Arena{full, world(1), {}, {Slots: make([]api.Slot, 1000)}, {Stripes: make([]api.Stripe, 3)}, {Slots: make([]api.Slot, 3), Stripes: make([]api.Stripe, 1), Dead: api.DeadCell{Owner: 7}}}
}

// strangeSections are sections that do not come from this package: some of their lists are too short or too long.
func strangeSections() []api.Section {
	shards, stripes := make([]api.Shard, 1000), make([]api.Stripe, 1000)
	for i := range stripes {
		stripes[i].Seq = i
		shards[i] = live(capacity)
	}
	huge := api.Outcome{Shards: shards, Order: make([]int, 1000), Carry: make([]api.Message, 1000), Edits: make([]api.Edit, 1000)}
	l := []api.Section{{Lock: api.Locker{Cells: make([]int, 1000), Have: 1000}, Shards: shards, Stripes: stripes, Out: huge, Carry: make([]api.Message, 1000)}}
	lists := []api.Section{
		{},
		{Shards: shards[:1]},
		{Stripes: stripes[:2], Out: api.Outcome{Shards: shards[:1], Order: []int{0, 1, 2}}},
		{Shards: shards[:3], Stripes: stripes[1:2], Out: api.Outcome{Order: []int{2, 1, 0}, Edits: []api.Edit{{Kind: 1, To: 2}}}},
		{Shards: shards[:2], Stripes: stripes[1:4], Out: api.Outcome{Shards: shards[:2], Order: []int{0, 0, -1, 9, math.MinInt, math.MaxInt}, Edits: make([]api.Edit, 9)}},
	}
	for _, cells := range [][]int{nil, {0}, {0, 2, 3}, {3, 0, -1, 9, math.MinInt, math.MaxInt}} {
		for _, s := range lists {
			s.Lock = api.Locker{Cells: cells, Phase: api.LockHolding, Have: len(cells)}
			l = append(l, s)
		}
	}
	return l
}

// checkStep tests that Step returns, and with an error nothing else.
func checkStep(t *testing.T, a api.Arena, s api.Section, task, n int) {
	t.Helper()
	nextArena, next, e := section.Step(a, s, task, n)
	if e != api.OK && text(nextArena, next) != text(api.Arena{}, api.Section{}) {
		t.Errorf("Step of %+v returns %+v, %+v, %d", s, nextArena, next, e)
	}
}

// checkDecide tests that Decide and Unchanged return, and Decide with an error nothing else.
func checkDecide(t *testing.T, s api.Section) {
	t.Helper()
	for _, o := range []api.Outcome{section.Unchanged(s), s.Out} {
		if next, e := section.Decide(s, o); e != api.OK && text(next) != text(api.Section{}) {
			t.Errorf("Decide of %+v, %+v returns %+v, %d", s, o, next, e)
		}
	}
}

// R1: every function returns for all arguments, also with sections that do not come from this package.
func TestAllArguments(t *testing.T) {
	for _, s := range strangeSections() {
		for phase := -1; phase <= 10; phase++ {
			s.Phase, s.At = phase, 0
			checkDecide(t, s)
			for _, at := range []int{math.MinInt, -3, -2, -1, 0, 1, 2, 3, 4, 5, 6, 999, 1000, 1001, 2000, math.MaxInt} {
				s.At = at
				for _, a := range strangers() {
					checkStep(t, a, s, 7, 3)
				}
			}
		}
	}
}

// Extreme numbers in each number of a section, and as task and step.
func TestExtremes(t *testing.T) {
	for _, n := range extremes {
		for phase := -1; phase <= 10; phase++ {
			for _, s := range []api.Section{{Lock: api.Locker{Cells: []int{0, 2, 3}}, Limit: n, Snap: api.Snapshot{Epoch: n, Clock: n, Stamp: n}}, {Lock: api.Locker{Cells: []int{n, n}, Phase: n, Have: n, Tries: n, Wait: n}, Snap: api.Snapshot{Phase: n}}} {
				s.Phase = phase
				checkDecide(t, s)
				checkStep(t, strangers()[0], s, 7, n)
				checkStep(t, strangers()[0], s, n, n)
				s.At = n
				checkStep(t, strangers()[0], s, 7, n)
			}
		}
		checkStep(t, strangers()[0], api.Section{Phase: n}, 7, 3)
	}
}

// A section in a phase that does not exist has no step.
func TestOtherPhases(t *testing.T) {
	for _, phase := range extremes {
		if phase < 0 || phase > 9 {
			for _, x := range busy(t) {
				x.s.Phase = phase
				fails(t, x.a, x.s, 7, api.ErrState)
			}
		}
	}
}

// An error of a called function is passed on, also where only a section or an arena from elsewhere can lead to it.
func TestErrorsOfStrangers(t *testing.T) {
	c := whole(t, []int{2}, nil)
	for _, phase := range []int{api.SecMark, api.SecLoad} {
		fails(t, world(1), c.until(phase, 0).s, 7, api.ErrRange)
	}
	x := c.until(api.SecSnap, 0)
	x.s.Snap.Phase = api.SnapDone
	fails(t, x.a, x.s, 7, api.ErrState)
	decides(t, api.Section{Phase: api.SecDecide}, api.Outcome{}, api.Section{}, api.ErrState)
}
