package section_test

import (
	"math"
	"slices"
	"testing"

	"shardqueue/api"
	"shardqueue/arena"
	"shardqueue/clone"
	"shardqueue/dead"
	"shardqueue/directory"
	"shardqueue/locker"
	"shardqueue/section"
	"shardqueue/shard"
	"shardqueue/snapshot"
)

// P15.2: sections that meet other tasks, and errors

// A locker that has to wait is stepped as long as it takes, and keeps the section in its phase.
func TestWaitingForLocks(t *testing.T) {
	for _, cells := range lists(3) {
		for _, taken := range cells {
			a, s := world(3), fresh(t, cells, 3)
			setOwner(&a, taken, stranger)
			for n := range 40 {
				if n == 30 {
					setOwner(&a, taken, nobody)
				}
				nextArena, l, e := locker.Step(a, s.Lock, 7)
				if e != api.OK {
					t.Fatalf("locker.Step of %+v: %d", s.Lock, e)
				}
				want := clone.Section(s)
				want.Lock = l
				if l.Phase == api.LockHolding {
					want.Phase = api.SecMark
					if cells[0] == 3 {
						want.Phase = api.SecLoad
					}
				}
				returns(t, a, s, 7, n, nextArena, want, api.OK)
				a, s = nextArena, want
				if s.Phase != api.SecLock {
					break
				}
			}
			if s.Lock.Phase != api.LockHolding || s.At != 0 {
				t.Errorf("the cells %v, of which %d was taken for some time: %+v", cells, taken, s)
			}
		}
	}
}

// until returns the first stage of a course in a phase, with a number of steps that were made in it.
func (c *course) until(phase, at int) stage {
	c.t.Helper()
	i := slices.IndexFunc(c.stages, func(x stage) bool { return x.s.Phase == phase })
	if i < 0 || i+at >= len(c.stages) || c.stages[i+at].s.Phase != phase {
		c.t.Fatalf("there is no step %d of the phase %d", at, phase)
	}
	return c.stages[i+at]
}

// whole returns a course from the beginning to the end.
func whole(t *testing.T, cells, order []int, edits ...api.Edit) *course {
	t.Helper()
	c := newCourse(t, 3, cells, 3, 7)
	c.prepares()
	c.ends(outcome(len(c.slots()), order, edits...))
	return c
}

// A purge lets the snapshot load again; the section stays in its phase until the snapshot is done. The time may be another one at each step.
func TestPurgesWhileSnapping(t *testing.T) {
	for _, cells := range lists(3) {
		x := whole(t, cells, nil).until(api.SecSnap, 0)
		a, s := x.a, x.s
		for n := 201; s.Phase == api.SecSnap && n < 230; n++ {
			if n < 210 {
				a.Epoch++
			}
			a.Clock++
			snap, e := snapshot.Step(a, s.Snap, n)
			if e != api.OK {
				t.Fatalf("snapshot.Step of %+v: %d", s.Snap, e)
			}
			want := clone.Section(s)
			want.Snap = snap
			if snap.Phase == api.SnapDone {
				want.Phase = api.SecDecide
			}
			returns(t, a, s, 7, n, a, want, api.OK)
			s = want
		}
		if want := (api.Snapshot{Phase: api.SnapDone, Epoch: epoch + 9, Clock: now + 10, Stamp: 210}); s.Phase != api.SecDecide || s.Snap != want {
			t.Errorf("the section %+v, want the snapshot %+v", s, want)
		}
	}
}

// The epoch of the snapshot is the one of the stripes, also if there was a purge later.
func TestPurgeAfterSnapshot(t *testing.T) {
	for _, order := range orders(2) {
		x := whole(t, []int{0, 1}, order).until(api.SecUnmark, 0)
		a := clone.Arena(x.a)
		a.Epoch = epoch + 1
		a.Clock++
		want, wantSection := clone.Arena(a), clone.Section(x.s)
		ready, leased := counts(a.Slots[0].Shard, epoch, 3)
		want.Stripes[0] = api.Stripe{Seq: 6, Epoch: epoch, Ready: ready, Leased: leased}
		wantSection.At = 1
		returns(t, a, x.s, 7, 9, want, wantSection, api.OK)
	}
}

// A directory that another task has changed is loaded again, as often as that happens. Until then the section keeps the old one.
func TestChangedDirectory(t *testing.T) {
	split := someEdits(3)[1]
	for _, cells := range lists(3) {
		c := newCourse(t, 3, cells, 3, 7)
		c.prepares()
		c.decides(outcome(len(c.slots()), []int{0}, split...))
		c.stores()
		for range 5 {
			c.step(func(a *api.Arena, s *api.Section) { s.Dir, s.At = a.Dir, 1 })
			c.a = clone.Arena(c.a)
			c.a.Dir.Version += 3
			c.step(func(a *api.Arena, s *api.Section) { s.At = 0 })
		}
		c.edits()
		if want := 1 + 5*3 + 1; c.a.Dir.Version != want {
			t.Errorf("the directory has the version %d, want %d", c.a.Dir.Version, want)
		}
		c.unmarks()
		c.frees()
	}
}

// Just the version tells whether the directory was changed: one with the same version is replaced by the changed one that was loaded.
func TestDirectoryOfSameVersion(t *testing.T) {
	x := whole(t, []int{0, 2}, nil, someEdits(3)[1]...).until(api.SecEdit, 1)
	a := clone.Arena(x.a)
	a.Dir.L = []api.Span{{Low: 0, High: 65535, Shard: 1}}
	next, s, e := section.Step(a, x.s, 7, 9)
	if want, _ := directory.Apply(x.s.Dir, someEdits(3)[1][0]); e != api.OK || text(next.Dir) != text(want) || text(s.Dir) != text(want) {
		t.Errorf("the directory %+v, %+v, %d, want %+v", next.Dir, s.Dir, e, want)
	}
}

// A merge is an edit, too; the section does not examine which shards it is about.
func TestMerge(t *testing.T) {
	edit := api.Edit{Kind: api.EditMerge, From: 0, To: 1}
	for _, cells := range lists(3) {
		c := newCourse(t, 3, cells, 3, 7)
		c.prepares()
		c.decides(outcome(len(c.slots()), nil, edit))
		c.step(func(a *api.Arena, s *api.Section) { s.Dir, s.At = a.Dir, 1 })
		c.step(func(a *api.Arena, s *api.Section) {
			a.Dir = api.Directory{Version: 2, L: []api.Span{{Low: 0, High: 65535, Shard: 1}}, Forward: []int{1, -1, -1}}
			s.Dir = a.Dir
			c.edited(s)
		})
		c.unmarks()
		c.frees()
	}
}

// The locks and stores need the owner, the loads do not: whoever has the cells, what is there is loaded.
func TestLostCells(t *testing.T) {
	for _, cells := range lists(3) {
		order := orders(len(cells))[len(orders(len(cells)))-1]
		c := whole(t, cells, order, someEdits(3)[1]...)
		for i, x := range c.stages[len(cells):] {
			touched := c.touched[len(cells)+i]
			for _, owner := range []int{nobody, stranger, 8, 1} {
				a := clone.Arena(x.a)
				for _, cell := range cells {
					setOwner(&a, cell, owner)
				}
				if slices.ContainsFunc(touched, func(name string) bool { return name[:4] == "lock" }) || x.s.Phase == api.SecStore {
					fails(t, a, x.s, 7, api.ErrOwner)
					continue
				}
				_, want, _ := section.Step(x.a, x.s, 7, x.n)
				wantArena := clone.Arena(a)
				if x.s.Phase == api.SecEdit && x.s.At == 1 {
					wantArena.Dir = want.Dir
				}
				returns(t, a, x.s, 7, x.n, wantArena, want, api.OK)
			}
		}
	}
}

// A locker that gives back its first cells may find that it has lost them.
func TestLostCellsWhileLocking(t *testing.T) {
	s := fresh(t, []int{0, 2}, 3)
	a := world(3)
	setOwner(&a, 2, stranger)
	for range 2 {
		a, s, _ = section.Step(a, s, 7, 1)
	}
	if s.Lock.Phase != api.LockLeaving {
		t.Fatalf("after two steps: %+v", s)
	}
	setOwner(&a, 0, stranger)
	fails(t, a, s, 7, api.ErrOwner)
}

// A number that is not a task cannot lock or store anything.
func TestNoTask(t *testing.T) {
	for _, task := range extremes {
		if 1 <= task && task <= 200 {
			continue
		}
		for _, cells := range lists(3) {
			fails(t, world(3), fresh(t, cells, 3), task, api.ErrRange)
		}
		c := whole(t, []int{0, 3}, []int{0, 1})
		for _, x := range []stage{c.until(api.SecMark, 1), c.until(api.SecStore, 0), c.until(api.SecStore, 1), c.until(api.SecUnmark, 0), c.until(api.SecFree, 0), c.until(api.SecFree, 1)} {
			fails(t, x.a, x.s, task, api.ErrRange)
		}
	}
}

// A cell that the arena does not have is found when it has to be locked.
func TestMissingCells(t *testing.T) {
	for slots := 1; slots <= 6; slots++ {
		for _, cells := range lists(6) {
			a, s, e := world(slots), fresh(t, cells, 3), api.OK
			for _, cell := range cells {
				if cell > slots {
					fails(t, a, s, 7, api.ErrRange)
					break
				}
				if a, s, e = section.Step(a, s, 7, 1); e != api.OK {
					t.Fatalf("the cell %d of %d slots: %d", cell, slots, e)
				}
			}
		}
	}
}

// A stripe that cannot be marked is found when the mark has to be stored; stripe.Begin comes before the arena.
func TestStripesThatCannotBeMarked(t *testing.T) {
	for _, x := range []struct {
		s    api.Stripe
		e    api.Errno
		lost api.Errno // if the slot is not locked, either
	}{
		{api.Stripe{Seq: -2}, api.ErrRange, api.ErrRange},
		{api.Stripe{Seq: 1<<40 + 2}, api.ErrRange, api.ErrRange},
		{api.Stripe{Seq: 1}, api.ErrState, api.ErrState},
		{api.Stripe{Seq: 1<<40 - 1}, api.ErrState, api.ErrState},
		{api.Stripe{Seq: 1 << 40}, api.ErrExhausted, api.ErrExhausted},
		{api.Stripe{Seq: 2, Ready: -1}, api.ErrRange, api.ErrOwner},
		{api.Stripe{Seq: 2, Leased: 1<<40 + 1}, api.ErrRange, api.ErrOwner},
	} {
		for place, slot := range []int{0, 2} {
			before := whole(t, []int{0, 2, 3}, nil).until(api.SecMark, 2*place)
			a, s := clone.Arena(before.a), before.s
			a.Stripes[slot] = x.s
			want := clone.Section(s)
			want.Stripes = append(want.Stripes, x.s)
			want.At++
			returns(t, a, s, 7, 9, a, want, api.OK)
			fails(t, a, want, 7, x.e)
			setOwner(&a, slot, stranger)
			fails(t, a, want, 7, x.lost)
		}
	}
}

// The last numbers of a stripe: they can be marked, and the mark can be taken off.
func TestLastSeq(t *testing.T) {
	a, s := world(3), fresh(t, []int{1}, 3)
	a.Stripes[1].Seq = 1<<40 - 2
	for n := 0; s.Phase != api.SecDone && n < 20; n++ {
		var e api.Errno
		if a, s, e = section.Step(a, s, 7, n); e != api.OK {
			t.Fatalf("the step %d: %d", n, e)
		}
		if s.Phase == api.SecDecide {
			s, _ = section.Decide(s, section.Unchanged(s))
		}
	}
	if s.Phase != api.SecDone || a.Stripes[1].Seq != 1<<40 {
		t.Errorf("the section %+v, the stripe %+v", s, a.Stripes[1])
	}
}

// live returns an empty shard that can be stored if it has the capacity of the arena.
func live(capacity int) api.Shard {
	s, _ := shard.New(capacity, 0, 9)
	return s
}

// brokenShards are shards that cannot be stored in an arena with the capacity of the tests: each one has another fault, the last two have only another capacity.
func brokenShards() []api.Shard {
	free, _ := shard.Free(capacity)
	free.High = 1
	ranges, ring := live(capacity), live(capacity)
	ranges.Low = 10
	ring.Ready.Head = capacity
	routes, leases, full, twice := filled(live(capacity), 1, 3, true), filled(live(capacity), 1, 3, true), filled(live(capacity), 1, 6, true), filled(live(capacity), 1, 3, true)
	routes.High = 8
	leases.Leases.Heap = nil
	twice.Ready.Cells[0].ID = 10
	return []api.Shard{{}, free, ranges, ring, routes, leases, full, twice, live(capacity - 1), live(capacity + 1)}
}

// A shard or a store of an outcome that the arena does not accept is found when it has to be stored.
func TestOutcomesThatCannotBeStored(t *testing.T) {
	kinds := map[api.Errno]int{}
	for i, broken := range brokenShards() {
		want := shard.Validate(broken)
		if want == api.OK {
			want = api.ErrRange
		}
		kinds[want]++
		for place := range 2 {
			c := newCourse(t, 3, []int{0, 2, 3}, 3, 7)
			c.prepares()
			o := outcome(2, []int{2, 1 - place, place})
			o.Shards[place] = broken
			x := stage{a: c.a}
			x.s, _ = section.Decide(c.s, o)
			for range 2 {
				x.a, x.s, _ = section.Step(x.a, x.s, 7, 1)
			}
			if x.s.Phase != api.SecStore || x.s.At != 2 {
				t.Fatalf("the shard %d: %+v", i, x.s)
			}
			fails(t, x.a, x.s, 7, want)
			setOwner(&x.a, []int{0, 2}[place], stranger)
			fails(t, x.a, x.s, 7, api.ErrOwner)
		}
	}
	if len(kinds) < 5 {
		t.Errorf("the errors of the shards are %v", kinds)
	}
	letter := api.Message{ID: 1}
	for _, d := range []api.Dead{{}, {Cap: 2}, {Cap: 4}, {Cap: 25}, {Cap: 3, L: make([]api.Message, 4)}, {Cap: 3, L: make([]api.Message, 1)}, {Cap: 3, L: []api.Message{letter, letter}}} {
		c := newCourse(t, 3, []int{0, 3}, 3, 7)
		c.prepares()
		o := outcome(1, []int{1})
		o.Dead = d
		s, _ := section.Decide(c.s, o)
		want := dead.Validate(d)
		if want == api.OK {
			want = api.ErrRange
		}
		fails(t, c.a, s, 7, want)
	}
}

// What is not stored is not examined.
func TestOutcomesThatAreNotStored(t *testing.T) {
	for _, broken := range brokenShards() {
		c := newCourse(t, 3, []int{0, 2, 3}, 3, 7)
		c.prepares()
		o := outcome(2, []int{1})
		o.Shards[0], o.Dead = broken, api.Dead{Cap: -1}
		c.ends(o)
	}
}

// An edit that is not possible is found when the directory has to be changed, whether it was changed meanwhile or not.
func TestEditsThatAreNotPossible(t *testing.T) {
	for _, x := range []struct {
		edit api.Edit
		e    api.Errno
	}{
		{api.Edit{}, api.ErrKind},
		{api.Edit{Kind: 3, From: 0, To: 2, Mid: 100}, api.ErrKind},
		{api.Edit{Kind: api.EditSplit, From: 3, To: 2, Mid: 100}, api.ErrMissing},
		{api.Edit{Kind: api.EditMerge, From: 0, To: -1}, api.ErrMissing},
		{api.Edit{Kind: api.EditSplit, From: 0, To: 1, Mid: 100}, api.ErrState},
		{api.Edit{Kind: api.EditMerge, From: 0, To: 2}, api.ErrState},
		{api.Edit{Kind: api.EditSplit, From: 0, To: 2, Mid: 32767}, api.ErrRange},
		{api.Edit{Kind: api.EditSplit, From: 0, To: 2, Mid: math.MinInt}, api.ErrRange},
	} {
		for _, cells := range lists(3) {
			c := newCourse(t, 3, cells, 3, 7)
			c.prepares()
			c.decides(outcome(len(c.slots()), []int{0}, x.edit))
			c.stores()
			c.step(func(a *api.Arena, s *api.Section) { s.Dir, s.At = a.Dir, 1 })
			fails(t, c.a, c.s, 7, x.e)
			c.a = clone.Arena(c.a)
			c.a.Dir.Version++
			fails(t, c.a, c.s, 7, x.e)
		}
	}
}

// A directory that cannot be changed, and one for another number of slots.
func TestDirectoriesThatCannotBeChanged(t *testing.T) {
	more, _ := directory.New(4, 2)
	last, _ := directory.New(3, 2)
	last.Version = 1 << 40
	gap, _ := directory.New(3, 2)
	gap.L[1].Low++
	for _, x := range []struct {
		d api.Directory
		e api.Errno
	}{{api.Directory{}, api.ErrRange}, {gap, api.ErrState}, {last, api.ErrExhausted}, {more, api.ErrRange}} {
		before := whole(t, []int{0, 2}, []int{1, 0}, someEdits(3)[1]...).until(api.SecEdit, 0)
		a := clone.Arena(before.a)
		a.Dir = x.d
		want := clone.Section(before.s)
		want.Dir, want.At = x.d, 1
		returns(t, a, before.s, 7, 9, a, want, api.OK)
		fails(t, a, want, 7, x.e)
		a.Dir.Version = 77
		fails(t, a, want, 7, x.e)
	}
}

// Nothing but the locks is examined when a stripe gets its counts, unless an arena has a shard or an epoch that it cannot have.
func TestCountsThatAreNotPossible(t *testing.T) {
	for _, broken := range brokenShards() {
		want := shard.Validate(broken)
		if want == api.OK {
			continue
		}
		a, s := world(3), fresh(t, []int{0, 2, 3}, 3)
		a.Slots[0].Shard = broken
		a, s = toUnmark(t, a, s)
		fails(t, a, s, 7, want)
		setOwner(&a, 0, stranger)
		fails(t, a, s, 7, want)
	}
	for _, number := range []int{-1, 1<<16 + 1} {
		a, s := world(3), fresh(t, []int{0, 2, 3}, 3)
		a.Epoch = number
		a, s = toUnmark(t, a, s)
		fails(t, a, s, 7, api.ErrRange)
	}
	for _, number := range []int{0, 1 << 16} {
		a, s := world(3), fresh(t, []int{0, 2, 3}, 3)
		a.Epoch = number
		a, s = toUnmark(t, a, s)
		if next, _, e := section.Step(a, s, 7, 1); e != api.OK || next.Stripes[0].Epoch != number {
			t.Errorf("the epoch %d: %+v, %d", number, next.Stripes[0], e)
		}
	}
}

// toUnmark carries out a section that changes nothing up to SecUnmark.
func toUnmark(t *testing.T, a api.Arena, s api.Section) (api.Arena, api.Section) {
	t.Helper()
	for n := 0; s.Phase != api.SecUnmark && n < 40; n++ {
		var e api.Errno
		if a, s, e = section.Step(a, s, 7, n); e != api.OK {
			t.Fatalf("the step %d: %d", n, e)
		}
		if s.Phase == api.SecDecide {
			s, _ = section.Decide(s, section.Unchanged(s))
		}
	}
	return a, s
}

// While the program has to decide, and when all is done, there is no step, for any arena, task and number.
func TestNothingToDo(t *testing.T) {
	for _, cells := range lists(3) {
		c := newCourse(t, 3, cells, 3, 7)
		c.prepares()
		waiting := c.s
		c.ends(outcome(len(c.slots()), nil))
		for _, s := range []api.Section{waiting, c.s} {
			for _, task := range []int{0, 7, 8, 201} {
				for _, a := range []api.Arena{c.a, world(3), world(1), {}} {
					fails(t, a, s, task, api.ErrState)
				}
			}
			for _, n := range extremes {
				if _, _, e := section.Step(c.a, s, 7, n); e != api.ErrState {
					t.Errorf("the step %d of %+v: %d", n, s, e)
				}
			}
		}
	}
}

// Only the snapshot asks for the number of the step.
func TestNumbersOfSteps(t *testing.T) {
	c := whole(t, []int{0, 2, 3}, []int{2, 0}, someEdits(3)[1]...)
	for _, x := range c.stages {
		wantArena, want, _ := section.Step(x.a, x.s, 7, x.n)
		for _, n := range extremes {
			if x.s.Snap.Phase == api.SnapClock {
				want.Snap.Stamp = n
			}
			returns(t, x.a, x.s, 7, n, wantArena, want, api.OK)
		}
	}
}

// The same section in arenas of other sizes: which cell has the dead letters follows from the arena of the step.
func TestDeadCellOfArena(t *testing.T) {
	for slots := 1; slots <= 6; slots++ {
		a, s := world(slots), fresh(t, []int{slots}, 3)
		var steps int
		for s.Phase != api.SecDecide && steps < 20 {
			a, s, _ = section.Step(a, s, 7, steps)
			steps++
		}
		if steps != 5 || text(s.Dead) != text(arena.LoadDead(a)) || len(s.Shards)+len(s.Stripes) != 0 {
			t.Errorf("the cell %d of %d slots takes %d steps: %+v", slots, slots, steps, s)
		}
		if slots == 6 {
			continue
		}
		a, s, steps = world(slots+1), fresh(t, []int{slots}, 3), 0
		for s.Phase != api.SecDecide && steps < 20 {
			a, s, _ = section.Step(a, s, 7, steps)
			steps++
		}
		if steps != 7 || len(s.Shards) != 1 || s.Dead.Cap != 0 {
			t.Errorf("the slot %d of %d takes %d steps: %+v", slots, slots+1, steps, s)
		}
	}
}
