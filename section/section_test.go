package section_test

import (
	"fmt"
	"math"
	"slices"
	"testing"

	"shardqueue/api"
	"shardqueue/arena"
	"shardqueue/clone"
	"shardqueue/section"
	"shardqueue/shard"
)

// extremes are numbers at which sums and comparisons are prone to go wrong.
var extremes = []int{
	math.MinInt, math.MinInt + 1, -1 << 40, -1 << 32, -201, -9, -4, -3, -2, -1, 0, 1, 2, 3, 4, 5, 6, 7, 8, 9, 10,
	127, 128, 200, 201, 255, 256, 257, 65536, 1 << 31, 1 << 32, 1<<32 + 1, 1 << 40, math.MaxInt - 1, math.MaxInt,
}

const (
	nobody   = 0
	stranger = 99 // has cells that do not belong to the tasks of the tests
	capacity = 8
	epoch    = 5
	now      = 40
)

// lists returns all lists of one to three cells from 0 to last, in ascending order.
func lists(last int) [][]int {
	var all [][]int
	for set := range 1 << (last + 1) {
		var l []int
		for cell := range last + 1 {
			if set>>cell&1 == 1 {
				l = append(l, cell)
			}
		}
		if 1 <= len(l) && len(l) <= 3 {
			all = append(all, l)
		}
	}
	return all
}

// orders returns all lists of different numbers from 0 to n-1, in every order.
func orders(n int) [][]int {
	all := [][]int{nil}
	for i := 0; i < len(all); i++ {
		for next := range n {
			if !slices.Contains(all[i], next) {
				all = append(all, append(slices.Clone(all[i]), next))
			}
		}
	}
	return all
}

// filled returns a shard with ready messages: some that count for each limit, one that is spent for the limits 1 and 2, and one that is purged; and maybe with a lease.
func filled(s api.Shard, id, plain int, leased bool) api.Shard {
	var l []api.Message
	for i := range plain {
		l = append(l, api.Message{ID: id + i, Route: s.Low, Epoch: epoch, Sent: 7, Body: "b"})
	}
	l = append(l, api.Message{ID: id + 7, Route: s.High, Epoch: epoch, Count: 2, Gen: 6}, api.Message{ID: id + 8, Route: s.High, Epoch: epoch - 1})
	copy(s.Ready.Cells, l)
	s.Ready.Size = len(l)
	if leased {
		m := api.Message{ID: id + 9, Route: s.Low, Epoch: epoch, Count: 3, Gen: 4}
		s.Leases = api.Table{L: []api.Lease{{Msg: m, Deadline: 50}}, Heap: []api.Due{{Deadline: 50, ID: id + 9}}}
	}
	return s
}

// world returns an arena with something in each cell. Only the last slot is free, if there are several.
func world(slots int) api.Arena {
	live := max(1, slots-1)
	a, _ := arena.New(api.Setup{Slots: slots, Live: live, Capacity: capacity, Dead: 3, Limit: 3, Clock: now, NextID: 900, Epoch: epoch})
	for slot := range slots {
		if slot < live {
			a.Slots[slot].Shard = filled(a.Slots[slot].Shard, 100*slot+100, 1+slot%3, slot%2 == 0)
		}
		a.Stripes[slot] = api.Stripe{Seq: 4 + 2*slot, Epoch: 2, Ready: 9, Leased: 8}
	}
	a.Dead.Dead.L = []api.Message{{ID: 800, Route: 3, Epoch: epoch, Count: 3, Gen: 3}}
	return a
}

// counts returns how many messages of a shard are ready and leased.
func counts(s api.Shard, epoch, limit int) (ready, leased int) {
	for _, m := range s.Ready.Cells {
		if m.ID != 0 && m.Epoch >= epoch && m.Count < limit {
			ready++
		}
	}
	for _, l := range s.Leases.L {
		if l.Msg.Epoch >= epoch {
			leased++
		}
	}
	return ready, leased
}

// outcome returns what a program may decide: no shard is like a loaded one or like another one of the outcome.
func outcome(slots int, order []int, edits ...api.Edit) api.Outcome {
	o := api.Outcome{Dead: api.Dead{Cap: 3, L: []api.Message{{ID: 810}, {ID: 811}}}, Order: order, Carry: []api.Message{{ID: 820}, {ID: 821}}, Edits: edits}
	for i := range slots {
		x, _ := shard.New(capacity, 10*i, 10*i+9)
		o.Shards = append(o.Shards, filled(x, 900+10*i, 3+i, i == 1))
	}
	return o
}

// someEdits returns no edit, and one that is possible in the world with that many slots.
func someEdits(slots int) [][]api.Edit {
	if slots == 1 {
		return [][]api.Edit{nil}
	}
	return [][]api.Edit{nil, {{Kind: api.EditSplit, From: 0, To: slots - 1, Mid: 100}}}
}

// text writes arenas, sections and outcomes with all that is in them; it is the same for an empty list as for none.
func text(values ...any) string {
	return fmt.Sprintf("%+v", values)
}

// setOwner changes the owner of a cell.
func setOwner(a *api.Arena, cell, owner int) {
	if cell == len(a.Slots) {
		a.Dead.Owner = owner
	} else {
		a.Slots[cell].Owner = owner
	}
}

// fresh returns a new section.
func fresh(t *testing.T, cells []int, limit int) api.Section {
	t.Helper()
	s, e := section.New(cells, limit)
	if e != api.OK {
		t.Fatalf("New(%v, %d): %d", cells, limit, e)
	}
	return s
}

// returns tests what Step returns, and that its arguments stay as they are.
func returns(t *testing.T, a api.Arena, s api.Section, task, n int, wantArena api.Arena, want api.Section, wanted api.Errno) {
	t.Helper()
	before := text(a, s)
	gotArena, got, e := section.Step(a, s, task, n)
	if e != wanted || text(gotArena, got) != text(wantArena, want) {
		t.Errorf("the step %d of the task %d of %s\nis   %s, %d\nwant %s, %d", n, task, before, text(gotArena, got), e, text(wantArena, want), wanted)
	}
	if text(a, s) != before {
		t.Errorf("Step has changed its arguments: %s, before %s", text(a, s), before)
	}
}

// fails tests that Step returns an error, and nothing else.
func fails(t *testing.T, a api.Arena, s api.Section, task int, want api.Errno) {
	t.Helper()
	returns(t, a, s, task, 3, api.Arena{}, api.Section{}, want)
}

// P15.1

func checkNew(t *testing.T, cells []int, limit int, want api.Section, wanted api.Errno) {
	t.Helper()
	before := slices.Clone(cells)
	if s, e := section.New(cells, limit); e != wanted || text(s) != text(want) {
		t.Errorf("New(%v, %d) = %+v, %d, want %+v, %d", cells, limit, s, e, want, wanted)
	}
	if !slices.Equal(cells, before) {
		t.Errorf("New has changed its argument: %v, before %v", cells, before)
	}
}

func TestNew(t *testing.T) {
	for _, cells := range lists(6) {
		for limit := 1; limit <= 8; limit++ {
			checkNew(t, cells, limit, api.Section{Phase: 0, Lock: api.Locker{Cells: cells, Phase: 0}, Limit: limit}, api.OK)
		}
	}
}

// The limit is examined after the cells.
func TestNewErrors(t *testing.T) {
	for _, limit := range extremes {
		for _, cells := range [][]int{nil, {}, {0, 1, 2, 3}, {-1, 1, 2, 3}, make([]int, 1000)} {
			checkNew(t, cells, limit, api.Section{}, api.ErrTooLong)
		}
		for _, cells := range [][]int{{-1}, {7}, {math.MinInt}, {math.MaxInt}, {0, 0}, {2, 1}, {0, 7}, {0, 1, 1}, {3, 2, 1}, {0, 2, 7}} {
			checkNew(t, cells, limit, api.Section{}, api.ErrRange)
		}
		if limit < 1 || limit > 8 {
			for _, cells := range [][]int{{0}, {6}, {0, 6}, {1, 2, 3}} {
				checkNew(t, cells, limit, api.Section{}, api.ErrRange)
			}
		}
	}
}

// P15.2: whole sections that meet no other task

// course carries out a section of a task step by step, and compares each step with what it has to be.
type course struct {
	t       *testing.T
	a       api.Arena
	s       api.Section
	task, n int
	touched [][]string // for each step the cells that may matter to it
	stages  []stage    // before each step
}

// stage is an arena with a section before the step n.
type stage struct {
	a api.Arena
	s api.Section
	n int
}

// newCourse returns a course whose first step has the number 101.
func newCourse(t *testing.T, slots int, cells []int, limit, task int) *course {
	t.Helper()
	return &course{t: t, a: world(slots), s: fresh(t, cells, limit), task: task, n: 100}
}

// step tests that the next step makes just a change. Only the touched cells may matter to it.
func (c *course) step(change func(a *api.Arena, s *api.Section), touched ...string) {
	c.t.Helper()
	c.n++
	c.stages, c.touched = append(c.stages, stage{c.a, c.s, c.n}), append(c.touched, touched)
	wantArena, want := clone.Arena(c.a), clone.Section(c.s)
	change(&wantArena, &want)
	returns(c.t, c.a, c.s, c.task, c.n, wantArena, want, api.OK)
	c.a, c.s = wantArena, want
}

// slots returns the cells that are slots.
func (c *course) slots() []int {
	return slices.DeleteFunc(slices.Clone(c.s.Lock.Cells), c.isDead)
}

func (c *course) isDead(cell int) bool {
	return cell == len(c.a.Slots)
}

func named(kind string, number int) string {
	return fmt.Sprint(kind, " ", number)
}

// locks tests SecLock.
func (c *course) locks() {
	c.t.Helper()
	cells, slots := c.s.Lock.Cells, len(c.slots())
	for i, cell := range cells {
		c.step(func(a *api.Arena, s *api.Section) {
			setOwner(a, cell, c.task)
			s.Lock.Have = i + 1
			if i+1 < len(cells) {
				return
			}
			s.Lock.Phase, s.Phase = api.LockHolding, api.SecMark
			if slots == 0 {
				s.Phase = api.SecLoad
			}
		}, named("lock", cell))
	}
}

// marks tests SecMark.
func (c *course) marks() {
	c.t.Helper()
	slots := c.slots()
	for i, slot := range slots {
		c.step(func(a *api.Arena, s *api.Section) {
			s.Stripes = append(s.Stripes, a.Stripes[slot])
			s.At = 2*i + 1
		}, named("stripe", slot))
		c.step(func(a *api.Arena, s *api.Section) {
			a.Stripes[slot].Seq++
			s.Stripes[i].Seq++
			s.At = 2*i + 2
			if i+1 == len(slots) {
				s.Phase, s.At = api.SecLoad, 0
			}
		}, named("stripe", slot), named("lock", slot))
	}
}

// loads tests SecLoad.
func (c *course) loads() {
	c.t.Helper()
	cells := c.s.Lock.Cells
	for i, cell := range cells {
		touched := named("shard", cell)
		if c.isDead(cell) {
			touched = "dead"
		}
		c.step(func(a *api.Arena, s *api.Section) {
			if c.isDead(cell) {
				s.Dead = a.Dead.Dead
			} else {
				s.Shards = append(s.Shards, a.Slots[cell].Shard)
			}
			s.At = i + 1
			if i+1 == len(cells) {
				s.Phase, s.At = api.SecSnap, 0
			}
		}, touched)
	}
}

// snaps tests SecSnap.
func (c *course) snaps() {
	c.t.Helper()
	c.step(func(a *api.Arena, s *api.Section) { s.Snap = api.Snapshot{Phase: api.SnapClock, Epoch: epoch} }, "epoch")
	c.step(func(a *api.Arena, s *api.Section) {
		s.Snap = api.Snapshot{Phase: api.SnapAgain, Epoch: epoch, Clock: now, Stamp: c.n}
	}, "clock")
	c.step(func(a *api.Arena, s *api.Section) {
		s.Snap.Phase = api.SnapDone
		s.Phase = api.SecDecide
	}, "epoch")
}

// prepares tests all steps up to the decision.
func (c *course) prepares() {
	c.t.Helper()
	c.locks()
	c.marks()
	c.loads()
	c.snaps()
}

// decides tests what Decide returns if it succeeds.
func (c *course) decides(o api.Outcome) {
	c.t.Helper()
	want := clone.Section(c.s)
	want.Out = o
	want.Phase = api.SecStore
	if len(o.Order) == 0 {
		c.stored(&want)
	}
	decides(c.t, c.s, o, want, api.OK)
	c.s = want
}

// stored changes a section as the last one of its stores does.
func (c *course) stored(s *api.Section) {
	s.Phase, s.At, s.Carry = api.SecEdit, 0, nil
	if len(s.Out.Edits) == 0 {
		c.edited(s)
	}
}

// edited changes a section as the change of the directory does.
func (c *course) edited(s *api.Section) {
	s.Phase, s.At = api.SecUnmark, 0
	if len(c.slots()) == 0 {
		s.Phase, s.Lock.Phase = api.SecFree, api.LockFreeing
	}
}

// stores tests SecStore.
func (c *course) stores() {
	c.t.Helper()
	order := c.s.Out.Order
	for k, i := range order {
		cell := c.s.Lock.Cells[i]
		touched := []string{named("shard", cell), named("lock", cell)}
		if c.isDead(cell) {
			touched[0] = "dead"
		}
		c.step(func(a *api.Arena, s *api.Section) {
			if c.isDead(cell) {
				a.Dead.Dead = s.Out.Dead
			} else {
				a.Slots[cell].Shard = s.Out.Shards[i]
			}
			s.Carry, s.At = s.Out.Carry, k+1
			if k+1 == len(order) {
				c.stored(s)
			}
		}, touched...)
	}
}

// edits tests SecEdit; the edit splits the slot 0.
func (c *course) edits() {
	c.t.Helper()
	for _, e := range c.s.Out.Edits {
		c.step(func(a *api.Arena, s *api.Section) {
			s.Dir = a.Dir
			s.At = 1
		}, "directory")
		c.step(func(a *api.Arena, s *api.Section) {
			a.Dir.Version++
			a.Dir.L = slices.Insert(a.Dir.L, 1, api.Span{Low: e.Mid + 1, High: a.Dir.L[0].High, Shard: e.To})
			a.Dir.L[0].High = e.Mid
			s.Dir = a.Dir
			c.edited(s)
		}, "directory")
	}
}

// unmarks tests SecUnmark.
func (c *course) unmarks() {
	c.t.Helper()
	slots := c.slots()
	for i, slot := range slots {
		c.step(func(a *api.Arena, s *api.Section) {
			ready, leased := counts(a.Slots[slot].Shard, epoch, s.Limit)
			a.Stripes[slot] = api.Stripe{Seq: 6 + 2*slot, Epoch: epoch, Ready: ready, Leased: leased}
			s.At = i + 1
			if i+1 == len(slots) {
				s.Phase, s.At, s.Lock.Phase = api.SecFree, 0, api.LockFreeing
			}
		}, named("stripe", slot), named("lock", slot))
	}
}

// frees tests SecFree, and that a section that is done makes no step.
func (c *course) frees() {
	c.t.Helper()
	for i, cell := range slices.Backward(c.s.Lock.Cells) {
		c.step(func(a *api.Arena, s *api.Section) {
			setOwner(a, cell, nobody)
			s.Lock.Have = i
			if i == 0 {
				s.Lock.Phase, s.Phase = api.LockFree, api.SecDone
			}
		}, named("lock", cell))
	}
	fails(c.t, c.a, c.s, c.task, api.ErrState)
}

// ends tests all steps after the decision for an outcome.
func (c *course) ends(o api.Outcome) {
	c.t.Helper()
	c.decides(o)
	c.stores()
	c.edits()
	c.unmarks()
	c.frees()
}

// follow tests a section with each of some outcomes. The number of steps follows from what there is to do: a cell is locked, loaded and unlocked, a stripe loaded and stored twice.
func follow(t *testing.T, slots int, cells []int, limit, task int, outcomes func(slots int) []api.Outcome) {
	t.Helper()
	c := newCourse(t, slots, cells, limit, task)
	c.prepares()
	fails(t, c.a, c.s, task, api.ErrState)
	for _, o := range outcomes(len(c.slots())) {
		x := *c
		x.ends(o)
		if want := 3*len(cells) + 3*len(c.slots()) + 3 + len(o.Order) + 2*len(o.Edits); x.n-100 != want {
			t.Errorf("the cells %v of %d slots take %d steps for the order %v, want %d", cells, slots, x.n-100, o.Order, want)
		}
	}
}

// Every list of cells, with each order of stores, and with and without an edit.
func TestCourses(t *testing.T) {
	for slots := 1; slots <= 3; slots++ {
		for i, cells := range lists(slots) {
			follow(t, slots, cells, 1+i%8, 1+i, func(n int) []api.Outcome {
				var l []api.Outcome
				for _, order := range orders(len(cells)) {
					for _, edits := range someEdits(slots) {
						l = append(l, outcome(n, order, edits...))
					}
				}
				return l
			})
		}
	}
}

// The greatest arena, and the last task.
func TestCoursesOfSixSlots(t *testing.T) {
	for _, cells := range lists(6) {
		follow(t, 6, cells, 3, 200, func(n int) []api.Outcome {
			all := orders(len(cells))
			return []api.Outcome{outcome(n, nil), outcome(n, all[len(all)-1], someEdits(6)[1]...)}
		})
	}
}

// The limit decides what counts as ready, whether the shard is stored or not.
func TestLimits(t *testing.T) {
	for limit := 1; limit <= 8; limit++ {
		follow(t, 3, []int{0, 1, 2}, limit, 7, func(n int) []api.Outcome {
			return []api.Outcome{outcome(n, nil), outcome(n, []int{1}), outcome(n, []int{2, 0}), outcome(n, []int{0, 1, 2})}
		})
	}
}

// The program may decide that nothing is stored.
func TestUnchangedCourses(t *testing.T) {
	for _, cells := range lists(3) {
		c := newCourse(t, 3, cells, 3, 7)
		c.prepares()
		o := section.Unchanged(c.s)
		shards, dead := c.a.Slots, c.a.Dead.Dead
		c.ends(o)
		for slot := range 3 {
			if text(c.a.Slots[slot].Shard) != text(shards[slot].Shard) {
				t.Errorf("the shard %d is %+v, before %+v", slot, c.a.Slots[slot].Shard, shards[slot].Shard)
			}
		}
		if text(c.a.Dead.Dead) != text(dead) {
			t.Errorf("the dead letters are %+v, before %+v", c.a.Dead.Dead, dead)
		}
	}
}

// The example of the chapter: a section of the slot 0 takes 10 steps if it stores, and 9 if it does not.
func TestExample(t *testing.T) {
	phases := []int{api.SecLock, api.SecMark, api.SecMark, api.SecLoad, api.SecSnap, api.SecSnap, api.SecSnap, api.SecStore, api.SecUnmark, api.SecFree}
	for _, order := range [][]int{{0}, nil} {
		want := slices.Clone(phases)
		if order == nil {
			want = slices.Delete(want, 7, 8)
		}
		a, s := world(3), fresh(t, []int{0}, 3)
		var got []int
		for s.Phase != api.SecDone && len(got) < 20 {
			got = append(got, s.Phase)
			var e api.Errno
			if a, s, e = section.Step(a, s, 1, 1); e != api.OK {
				t.Fatalf("after %v: %d", got, e)
			}
			if s.Phase == api.SecDecide {
				s, _ = section.Decide(s, outcome(1, order))
			}
		}
		if !slices.Equal(got, want) {
			t.Errorf("the phases of the steps are %v, want %v", got, want)
		}
	}
}

// spoils change one cell of the arena of three slots.
func spoils() map[string]func(a *api.Arena) {
	l := map[string]func(a *api.Arena){
		"lock 3":    func(a *api.Arena) { a.Dead.Owner = stranger },
		"dead":      func(a *api.Arena) { a.Dead.Dead = api.Dead{Cap: 3} },
		"directory": func(a *api.Arena) { a.Dir = api.Directory{Version: 9} },
		"epoch":     func(a *api.Arena) { a.Epoch += 7 },
		"clock":     func(a *api.Arena) { a.Clock += 7 },
		"id":        func(a *api.Arena) { a.NextID += 7 },
	}
	for slot := range 3 {
		l[named("lock", slot)] = func(a *api.Arena) { a.Slots[slot].Owner = stranger }
		l[named("shard", slot)] = func(a *api.Arena) { a.Slots[slot].Shard, _ = shard.New(capacity, 0, 1) }
		l[named("stripe", slot)] = func(a *api.Arena) { a.Stripes[slot] = api.Stripe{Seq: 77} }
	}
	return l
}

// A step touches one cell: what is in the others does not matter to it, and stays there.
func TestOneCellPerStep(t *testing.T) {
	for _, cells := range lists(3) {
		c := newCourse(t, 3, cells, 3, 7)
		c.prepares()
		c.ends(outcome(len(c.slots()), orders(len(cells))[len(orders(len(cells)))-1], someEdits(3)[1]...))
		for i, x := range c.stages {
			wantArena, want, _ := section.Step(x.a, x.s, 7, x.n)
			for name, spoil := range spoils() {
				if slices.Contains(c.touched[i], name) {
					continue
				}
				spoilt, wantSpoilt := clone.Arena(x.a), clone.Arena(wantArena)
				spoil(&spoilt)
				spoil(&wantSpoilt)
				returns(t, spoilt, x.s, 7, x.n, wantSpoilt, want, api.OK)
			}
		}
	}
}

// P15.3

// decides tests what Decide returns, and that its arguments stay as they are.
func decides(t *testing.T, s api.Section, o api.Outcome, want api.Section, wanted api.Errno) {
	t.Helper()
	before := text(s, o)
	if got, e := section.Decide(s, o); e != wanted || text(got) != text(want) {
		t.Errorf("Decide of %s\nis   %+v, %d\nwant %+v, %d", before, got, e, want, wanted)
	}
	if text(s, o) != before {
		t.Errorf("Decide has changed its arguments: %s, before %s", text(s, o), before)
	}
}

// deciding returns a section that waits for a decision.
func deciding(t *testing.T, slots int, cells []int) *course {
	t.Helper()
	c := newCourse(t, slots, cells, 3, 7)
	c.prepares()
	return c
}

// Every list of up to four indices from -1 to 3: just the lists of different indices of cells are accepted.
func TestDecideOrders(t *testing.T) {
	var all [][]int
	for short := [][]int{nil}; len(short[0]) < 4; {
		var longer [][]int
		for _, l := range short {
			for i := -1; i <= 3; i++ {
				longer = append(longer, append(slices.Clone(l), i))
			}
		}
		all, short = append(all, longer...), longer
	}
	for _, cells := range [][]int{{0}, {3}, {0, 2}, {1, 3}, {0, 1, 2}, {0, 2, 3}} {
		c := deciding(t, 3, cells)
		accepted := 0
		for _, order := range all {
			o := outcome(len(c.slots()), order)
			if slices.ContainsFunc(orders(len(cells)), func(l []int) bool { return slices.Equal(l, order) }) {
				x := *c
				x.decides(o)
				accepted++
			} else {
				decides(t, c.s, o, api.Section{}, api.ErrRange)
			}
		}
		if accepted != len(orders(len(cells)))-1 {
			t.Errorf("%d orders of the cells %v are accepted", accepted, cells)
		}
		for _, i := range extremes {
			if i < 0 || i >= len(cells) {
				decides(t, c.s, outcome(len(c.slots()), []int{i}), api.Section{}, api.ErrRange)
				decides(t, c.s, outcome(len(c.slots()), []int{0, i}), api.Section{}, api.ErrRange)
			}
		}
		decides(t, c.s, outcome(len(c.slots()), make([]int, 1000)), api.Section{}, api.ErrRange)
	}
}

// An outcome has as many shards as the section, and at most one edit, whatever is stored.
func TestDecideNumbers(t *testing.T) {
	for _, cells := range lists(3) {
		c := deciding(t, 3, cells)
		slots := len(c.slots())
		for _, order := range orders(len(cells)) {
			for n := range 5 {
				for edits := range 4 {
					o := outcome(n, order, make([]api.Edit, edits)...)
					if n == slots && edits <= 1 {
						x := *c
						x.decides(o)
					} else {
						decides(t, c.s, o, api.Section{}, api.ErrRange)
					}
				}
			}
		}
		decides(t, c.s, api.Outcome{Shards: make([]api.Shard, 1000)}, api.Section{}, api.ErrRange)
		decides(t, c.s, outcome(slots, nil, make([]api.Edit, 1000)...), api.Section{}, api.ErrRange)
	}
}

// What is in the shards, the store, the messages and the edit is not examined: the arena examines what is stored.
func TestDecideContents(t *testing.T) {
	c := deciding(t, 3, []int{0, 2, 3})
	broken := api.Shard{Live: true, Low: 9, High: 3}
	for _, order := range orders(3) {
		for _, e := range []api.Edit{{}, {Kind: 9}, {Kind: api.EditMerge, From: -1, To: 77, Mid: math.MaxInt}} {
			x := *c
			x.decides(api.Outcome{Shards: []api.Shard{broken, {}}, Dead: api.Dead{Cap: -1}, Order: order, Carry: []api.Message{{ID: -1}}, Edits: []api.Edit{e}})
		}
	}
	x := *c
	x.decides(api.Outcome{Shards: make([]api.Shard, 2), Carry: make([]api.Message, 1000)})
}

// A section is asked for a decision only once. The phase is examined before the outcome.
func TestDecideState(t *testing.T) {
	for _, cells := range lists(3) {
		c := newCourse(t, 3, cells, 3, 7)
		c.prepares()
		order := orders(len(cells))[len(orders(len(cells)))-1]
		c.ends(outcome(len(c.slots()), order, someEdits(3)[1]...))
		for _, x := range append(c.stages, stage{s: c.s}) {
			for _, o := range []api.Outcome{section.Unchanged(x.s), outcome(len(c.slots()), order), {}, {Shards: make([]api.Shard, 9)}, {Order: []int{-1}}, {Edits: make([]api.Edit, 2)}} {
				decides(t, x.s, o, api.Section{}, api.ErrState)
			}
		}
	}
	for _, phase := range extremes {
		if phase != api.SecDecide {
			decides(t, api.Section{Phase: phase}, api.Outcome{}, api.Section{}, api.ErrState)
			decides(t, api.Section{Phase: phase}, api.Outcome{Order: []int{5}}, api.Section{}, api.ErrState)
		}
	}
}

// Unchanged has what the section has loaded, at each of its steps, and nothing of an outcome that it has.
func TestUnchanged(t *testing.T) {
	for _, cells := range lists(3) {
		c := newCourse(t, 3, cells, 3, 7)
		c.prepares()
		c.ends(outcome(len(c.slots()), orders(len(cells))[len(orders(len(cells)))-1], someEdits(3)[1]...))
		for _, x := range append(c.stages, stage{s: c.s}) {
			before := text(x.s)
			want := api.Outcome{Shards: x.s.Shards, Dead: x.s.Dead}
			if o := section.Unchanged(x.s); text(o) != text(want) {
				t.Errorf("Unchanged(%+v)\nis   %+v\nwant %+v", x.s, o, want)
			}
			if text(x.s) != before {
				t.Errorf("Unchanged has changed its argument: %+v, before %s", x.s, before)
			}
		}
	}
}
