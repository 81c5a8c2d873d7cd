package locker_test

import (
	"fmt"
	"math"
	"slices"
	"strings"
	"testing"

	"shardqueue/api"
	"shardqueue/arena"
	"shardqueue/locker"
)

// extremes are numbers at which sums and comparisons are prone to go wrong.
var extremes = []int{
	math.MinInt, math.MinInt + 1, -1 << 40, -1 << 32, -201, -200, -7, -6, -4, -3, -2, -1, 0, 1, 2, 3, 4, 5, 6, 7, 8, 9,
	127, 128, 199, 200, 201, 255, 256, 257, 65536, 1 << 31, 1 << 32, 1<<32 + 1, 1 << 40, math.MaxInt - 1, math.MaxInt,
}

// tasks are some tasks, with the first one and the last one.
var tasks = []int{1, 2, 7, 128, 200}

// noTasks are numbers that are not tasks.
var noTasks = slices.DeleteFunc(slices.Clone(extremes), func(n int) bool { return 1 <= n && n <= 200 })

// failures are numbers of failures, and waits how long a locker waits if these were there before another one.
var (
	failures = []int{0, 1, 2, 3, 4, 5, 1000}
	waits    = []int{1, 2, 3, 3, 3, 3, 3}
)

// nobody and stranger own cells that do not belong to the tasks of the tests.
const (
	nobody   = 0
	stranger = 99
)

// lists returns all lists of one to three cells from 0 to last, in ascending order.
func lists(last int) [][]int {
	var all [][]int
	for set := range 1 << (last + 1) {
		var l []int
		for cell := range last + 1 {
			if set>>cell&1 == 1 {
				l = append(l, cell)
			}
		}
		if 1 <= len(l) && len(l) <= 3 {
			all = append(all, l)
		}
	}
	return all
}

func msg(id, route int) api.Message {
	return api.Message{ID: id, Route: route, Epoch: 2, Count: 1, Gen: 100 + id, Sent: 5 + id, Body: strings.Repeat("b", id)}
}

// world returns an arena with six slots, in which something is in each kind of cell. All cells belong to one owner.
func world(owner int) api.Arena {
	a, _ := arena.New(api.Setup{Slots: 6, Live: 4, Capacity: 3, Dead: 2, Limit: 2, Clock: 10, NextID: 7, Epoch: 3})
	a.Slots[0].Shard.Ready = api.Ring{Cells: []api.Message{msg(3, 3), {}, msg(1, 9)}, Head: 2, Size: 2}
	a.Slots[0].Shard.Leases = api.Table{L: []api.Lease{{Msg: msg(2, 0), Deadline: 15}}, Heap: []api.Due{{Deadline: 15, ID: 2}}}
	a.Stripes[0], a.Stripes[5] = api.Stripe{Seq: 4, Epoch: 3, Ready: 2, Leased: 1}, api.Stripe{Seq: 7, Epoch: 2}
	a.Dead.Dead.L = []api.Message{msg(5, 1)}
	a.Dir.Version, a.Dir.Forward[4] = 3, 1
	for cell := range 7 {
		a = withOwner(a, cell, owner)
	}
	return a
}

// small returns an arena with one lockable cell more than it has slots.
func small(slots int) api.Arena {
	a, _ := arena.New(api.Setup{Slots: slots, Live: 1, Capacity: 1, Dead: 1, Limit: 1, NextID: 1})
	return a
}

// withOwner returns the arena with another owner of a cell.
func withOwner(a api.Arena, cell, owner int) api.Arena {
	a.Slots = slices.Clone(a.Slots)
	if cell == len(a.Slots) {
		a.Dead.Owner = owner
	} else {
		a.Slots[cell].Owner = owner
	}
	return a
}

// withFirst returns the arena with the owner of the first cells that a locker has.
func withFirst(a api.Arena, l api.Locker, owner int) api.Arena {
	for _, cell := range l.Cells[:l.Have] {
		a = withOwner(a, cell, owner)
	}
	return a
}

// owners returns the owners of the lockable cells.
func owners(a api.Arena) []int {
	var l []int
	for _, s := range a.Slots {
		l = append(l, s.Owner)
	}
	return append(l, a.Dead.Owner)
}

// text writes arenas and lockers with all that is in them; it is the same for an empty list as for none.
func text(values ...any) string {
	return fmt.Sprintf("%+v", values)
}

// returns tests what Step returns, and that its arguments stay as they are.
func returns(t *testing.T, a api.Arena, l api.Locker, task int, wantArena api.Arena, want api.Locker, wantError api.Errno) {
	t.Helper()
	before := text(a, l)
	gotArena, got, e := locker.Step(a, l, task)
	if e != wantError || text(gotArena, got) != text(wantArena, want) {
		t.Errorf("Step by the task %d of %s\nis   %s, %d\nwant %s, %d", task, before, text(gotArena, got), e, text(wantArena, want), wantError)
	}
	if text(a, l) != before {
		t.Errorf("Step has changed its arguments: %s, before %s", text(a, l), before)
	}
}

// steps tests what Step returns if it succeeds.
func steps(t *testing.T, a api.Arena, l api.Locker, task int, wantArena api.Arena, want api.Locker) {
	t.Helper()
	returns(t, a, l, task, wantArena, want, api.OK)
}

// fails tests that Step returns an error, and nothing else.
func fails(t *testing.T, a api.Arena, l api.Locker, task int, want api.Errno) {
	t.Helper()
	returns(t, a, l, task, api.Arena{}, api.Locker{}, want)
}

// P13.1

func checkNew(t *testing.T, cells []int, want api.Locker, wanted api.Errno) {
	t.Helper()
	before := slices.Clone(cells)
	if l, e := locker.New(cells); e != wanted || text(l) != text(want) {
		t.Errorf("New(%v) = %+v, %d, want %+v, %d", cells, l, e, want, wanted)
	}
	if !slices.Equal(cells, before) {
		t.Errorf("New has changed its argument: %v, before %v", cells, before)
	}
}

func TestNew(t *testing.T) {
	for _, cells := range [][]int{{0}, {6}, {0, 1}, {0, 6}, {5, 6}, {0, 1, 2}, {0, 2, 6}, {4, 5, 6}} {
		checkNew(t, cells, api.Locker{Cells: cells, Phase: 0, Have: 0, Tries: 0, Wait: 0}, api.OK)
	}
}

// Every list of up to four numbers from -2 to 8: just the 63 lists of one to three cells in ascending order are accepted.
func TestNewOfAllShortLists(t *testing.T) {
	accepted := map[string]bool{}
	for _, cells := range lists(6) {
		accepted[text(cells)] = true
	}
	if len(accepted) != 63 {
		t.Fatalf("%d lists", len(accepted))
	}
	short := [][]int{nil}
	for size := range 5 {
		for _, cells := range short {
			switch {
			case size == 0 || size == 4:
				checkNew(t, cells, api.Locker{}, api.ErrTooLong)
			case accepted[text(cells)]:
				checkNew(t, cells, api.Locker{Cells: cells}, api.OK)
			default:
				checkNew(t, cells, api.Locker{}, api.ErrRange)
			}
		}
		var longer [][]int
		for _, cells := range short {
			for cell := -2; cell <= 8; cell++ {
				longer = append(longer, append(slices.Clone(cells), cell))
			}
		}
		short = longer
	}
}

// An extreme number is no cell, wherever it stands, and also where the list is in order.
func TestNewOfExtremes(t *testing.T) {
	for _, n := range extremes {
		if 0 <= n && n <= 6 {
			checkNew(t, []int{n}, api.Locker{Cells: []int{n}}, api.OK)
			continue
		}
		for _, cells := range [][]int{{n}, {n, 3}, {3, n}, {n, 3, 4}, {3, n, 4}, {3, 4, n}, {n, n}, {n, n + 1}, {n, n + 1, n + 2}} {
			checkNew(t, cells, api.Locker{}, api.ErrRange)
		}
	}
}

// The length is examined before the cells.
func TestNewOfLongLists(t *testing.T) {
	for _, cells := range [][]int{nil, {}, {0, 1, 2, 3}, {3, 4, 5, 6}, {-1, 1, 2, 3}, {0, 0, 0, 0}, {3, 2, 1, 0}, {0, 1, 2, 7}, {0, 1, 2, 3, 4, 5, 6}, make([]int, 256), make([]int, 1000)} {
		checkNew(t, cells, api.Locker{}, api.ErrTooLong)
	}
}

// P13.2, LockTrying

// trying calls a function for each locker that tries to lock its next cell, and with each arena in which it has just the cells before: the others belong to nobody, or all to a stranger.
func trying(visit func(a api.Arena, l api.Locker, task int)) {
	for _, cells := range lists(6) {
		for have := range cells {
			for i, tries := range failures {
				task := tasks[i%len(tasks)]
				l := api.Locker{Cells: cells, Phase: api.LockTrying, Have: have, Tries: tries}
				visit(withFirst(world(nobody), l, task), l, task)
				visit(withFirst(world(stranger), l, task), l, task)
			}
		}
	}
}

func TestAcquire(t *testing.T) {
	trying(func(a api.Arena, l api.Locker, task int) {
		want := l
		want.Have++
		if want.Have == len(l.Cells) {
			want.Phase = api.LockHolding
		}
		steps(t, withOwner(a, l.Cells[l.Have], nobody), l, task, withOwner(a, l.Cells[l.Have], task), want)
	})
}

// A locker that has something leaves, one that has nothing tries again; it does not matter who has the cell.
func TestAcquireFails(t *testing.T) {
	trying(func(a api.Arena, l api.Locker, task int) {
		want := l
		if l.Have > 0 {
			want.Phase = api.LockLeaving
		}
		for _, owner := range []int{stranger, task, 1, 200} {
			taken := withOwner(a, l.Cells[l.Have], owner)
			steps(t, taken, l, task, taken, want)
		}
	})
}

// A locker that has nothing tries to get its first cell as often as it takes, without counting.
func TestAcquireAgain(t *testing.T) {
	for _, cells := range lists(6) {
		a := withOwner(world(nobody), cells[0], stranger)
		l, _ := locker.New(cells)
		for range 10 {
			var e api.Errno
			if a, l, e = locker.Step(a, l, 1); e != api.OK || text(l) != text(api.Locker{Cells: cells}) {
				t.Fatalf("a locker without its first cell: %+v, %d", l, e)
			}
		}
		want := api.Locker{Cells: cells, Have: 1}
		if len(cells) == 1 {
			want.Phase = api.LockHolding
		}
		steps(t, withOwner(a, cells[0], nobody), l, 1, withOwner(a, cells[0], 1), want)
	}
}

// P13.2, LockLeaving and LockFreeing

// leaving calls a function for each locker in a phase that gives back its last cell, and with each arena as trying does.
func leaving(phase int, visit func(a api.Arena, l api.Locker, task, i int)) {
	for _, cells := range lists(6) {
		for have := 1; have <= len(cells); have++ {
			for i, tries := range failures {
				task := tasks[i%len(tasks)]
				l := api.Locker{Cells: cells, Phase: phase, Have: have, Tries: tries}
				visit(withFirst(world(nobody), l, task), l, task, i)
				visit(withFirst(world(stranger), l, task), l, task, i)
			}
		}
	}
}

// After its last cell a locker waits, the longer the more often it has failed, up to three steps.
func TestLeave(t *testing.T) {
	leaving(api.LockLeaving, func(a api.Arena, l api.Locker, task, i int) {
		want := l
		want.Have--
		if l.Have == 1 {
			want.Phase, want.Tries, want.Wait = api.LockPausing, failures[i]+1, waits[i]
		}
		steps(t, a, l, task, withOwner(a, l.Cells[l.Have-1], nobody), want)
	})
}

func TestGiveBackAll(t *testing.T) {
	leaving(api.LockFreeing, func(a api.Arena, l api.Locker, task, _ int) {
		want := l
		want.Have--
		if l.Have == 1 {
			want.Phase = api.LockFree
		}
		steps(t, a, l, task, withOwner(a, l.Cells[l.Have-1], nobody), want)
	})
}

// P13.2, LockPausing

// A pause touches no cell: neither who has the cells matters, nor whether the task is one.
func TestPause(t *testing.T) {
	for _, cells := range lists(6) {
		for i, tries := range failures[1:] {
			for wait := 1; wait <= waits[i]; wait++ {
				l := api.Locker{Cells: cells, Phase: api.LockPausing, Tries: tries, Wait: wait}
				want := l
				want.Wait--
				if wait == 1 {
					want.Phase = api.LockTrying
				}
				for _, task := range append([]int{1, 200}, noTasks[i]) {
					for _, owner := range []int{nobody, stranger, 1} {
						steps(t, world(owner), l, task, world(owner), want)
					}
				}
			}
		}
	}
	l := api.Locker{Cells: []int{2, 6}, Phase: api.LockPausing, Tries: 5, Wait: 3}
	for _, task := range extremes {
		want := l
		want.Wait = 2
		steps(t, world(stranger), l, task, world(stranger), want)
		steps(t, small(1), l, task, small(1), want)
	}
}

// P13.2, LockHolding and LockFree

func TestNothingToDo(t *testing.T) {
	for _, cells := range lists(6) {
		for _, tries := range failures {
			for _, task := range []int{1, 200, 0, 201} {
				holding := api.Locker{Cells: cells, Phase: api.LockHolding, Have: len(cells), Tries: tries}
				fails(t, withFirst(world(nobody), holding, task), holding, task, api.ErrState)
				fails(t, world(stranger), holding, task, api.ErrState)
				free := api.Locker{Cells: cells, Phase: api.LockFree, Tries: tries}
				fails(t, world(nobody), free, task, api.ErrState)
				fails(t, world(stranger), free, task, api.ErrState)
			}
		}
	}
}

// P13.2, the errors of the arena

// In an arena with less slots, some numbers are no cells.
func TestCellsThatAreMissing(t *testing.T) {
	for slots := 1; slots <= 6; slots++ {
		for _, cells := range lists(6) {
			a, l := small(slots), api.Locker{Cells: cells}
			for _, cell := range cells {
				if cell > slots {
					fails(t, a, l, 1, api.ErrRange)
					l.Phase = api.LockLeaving
					l.Have++
					fails(t, a, l, 1, api.ErrRange)
					l.Phase = api.LockFreeing
					fails(t, a, l, 1, api.ErrRange)
					break
				}
				a = withOwner(a, cell, 1)
				l.Have++
			}
		}
	}
}

func TestNumbersThatAreNoTasks(t *testing.T) {
	for _, task := range noTasks {
		for _, owner := range []int{nobody, stranger, task} {
			for have := range 3 {
				l := api.Locker{Cells: []int{1, 3, 6}, Have: have}
				fails(t, world(owner), l, task, api.ErrRange)
				l.Have++
				for _, phase := range []int{api.LockLeaving, api.LockFreeing} {
					l.Phase = phase
					fails(t, world(owner), l, task, api.ErrRange)
				}
			}
		}
	}
}

// A cell that belongs to somebody else, or to nobody, cannot be given back, even if the task has all others.
func TestCellsOfOthers(t *testing.T) {
	for _, cells := range lists(6) {
		for have := 1; have <= len(cells); have++ {
			for _, phase := range []int{api.LockLeaving, api.LockFreeing} {
				for _, owner := range []int{nobody, stranger, 1, 200} {
					l := api.Locker{Cells: cells, Phase: phase, Have: have, Tries: 2}
					fails(t, withOwner(world(7), cells[have-1], owner), l, 7, api.ErrOwner)
				}
			}
		}
	}
}

// P13.2, Free

func TestFree(t *testing.T) {
	for _, cells := range lists(6) {
		for _, tries := range failures {
			for phase := range 6 {
				l := api.Locker{Cells: cells, Phase: phase, Have: len(cells), Tries: tries}
				before, want, wanted := text(l), api.Locker{}, api.ErrState
				if phase == api.LockHolding {
					want, wanted = api.Locker{Cells: cells, Phase: api.LockFreeing, Have: len(cells), Tries: tries}, api.OK
				}
				if got, e := locker.Free(l); e != wanted || text(got) != text(want) {
					t.Errorf("Free(%+v) = %+v, %d, want %+v, %d", l, got, e, want, wanted)
				}
				if text(l) != before {
					t.Errorf("Free has changed its argument: %+v, before %s", l, before)
				}
			}
		}
	}
}

// Whatever else a locker has, Free succeeds in one phase only.
func TestFreeInOtherPhases(t *testing.T) {
	for _, phase := range extremes {
		for have := range 3 {
			l := api.Locker{Cells: []int{1, 4}, Phase: phase, Have: have, Wait: 2 - have}
			if got, e := locker.Free(l); phase != 3 && (e != api.ErrState || text(got) != text(api.Locker{})) {
				t.Errorf("Free(%+v) = %+v, %d", l, got, e)
			}
		}
	}
}

// The whole life of a locker

// trace is the state of a locker and of the cells after a step.
type trace struct {
	l      api.Locker
	owners []int
}

// follows tests a locker step by step; the cells of the wanted lockers are left out.
func follows(t *testing.T, a api.Arena, l api.Locker, task int, want []trace) (api.Arena, api.Locker) {
	t.Helper()
	for i, w := range want {
		w.l.Cells = l.Cells
		var e api.Errno
		if a, l, e = locker.Step(a, l, task); e != api.OK || text(l) != text(w.l) || !slices.Equal(owners(a), w.owners) {
			t.Fatalf("after step %d: %+v, %v, %d, want %+v", i+1, l, owners(a), e, w)
		}
	}
	return a, l
}

// The example of the chapter, up to the end.
func TestExample(t *testing.T) {
	a := withOwner(small(3), 2, 9)
	l, _ := locker.New([]int{0, 2})
	a, l = follows(t, a, l, 1, []trace{
		{api.Locker{Phase: api.LockTrying, Have: 1}, []int{1, 0, 9, 0}},
		{api.Locker{Phase: api.LockLeaving, Have: 1}, []int{1, 0, 9, 0}},
		{api.Locker{Phase: api.LockPausing, Tries: 1, Wait: 1}, []int{0, 0, 9, 0}},
		{api.Locker{Phase: api.LockTrying, Tries: 1}, []int{0, 0, 9, 0}},
		{api.Locker{Phase: api.LockTrying, Have: 1, Tries: 1}, []int{1, 0, 9, 0}},
	})
	a, l = follows(t, withOwner(a, 2, nobody), l, 1, []trace{
		{api.Locker{Phase: api.LockHolding, Have: 2, Tries: 1}, []int{1, 0, 1, 0}},
	})
	l, e := locker.Free(l)
	if e != api.OK {
		t.Fatalf("Free: %d", e)
	}
	follows(t, a, l, 1, []trace{
		{api.Locker{Phase: api.LockFreeing, Have: 1, Tries: 1}, []int{1, 0, 0, 0}},
		{api.Locker{Phase: api.LockFree, Tries: 1}, []int{0, 0, 0, 0}},
	})
}

// A locker that lacks its third cell gives back the second one before the first one.
func TestLeaveInOrder(t *testing.T) {
	a := withOwner(small(3), 3, 9)
	l, _ := locker.New([]int{0, 2, 3})
	follows(t, a, l, 5, []trace{
		{api.Locker{Phase: api.LockTrying, Have: 1}, []int{5, 0, 0, 9}},
		{api.Locker{Phase: api.LockTrying, Have: 2}, []int{5, 0, 5, 9}},
		{api.Locker{Phase: api.LockLeaving, Have: 2}, []int{5, 0, 5, 9}},
		{api.Locker{Phase: api.LockLeaving, Have: 1}, []int{5, 0, 0, 9}},
		{api.Locker{Phase: api.LockPausing, Tries: 1, Wait: 1}, []int{0, 0, 0, 9}},
		{api.Locker{Phase: api.LockTrying, Tries: 1}, []int{0, 0, 0, 9}},
	})
}

// A locker that fails a number of times at one of its cells takes an exact number of steps, whatever its cells are.
func TestNumberOfSteps(t *testing.T) {
	for _, cells := range lists(6) {
		for at := 1; at < len(cells); at++ {
			for fail := range 8 {
				wait := 0
				for i := range fail {
					wait += min(i+1, 3)
				}
				want := fail*(2*at+1) + wait // until it has nothing and tries again
				a := withOwner(small(6), cells[at], 9)
				l, _ := locker.New(cells)
				for range want {
					a, l, _ = locker.Step(a, l, 1)
				}
				if l.Tries != fail || l.Phase != api.LockTrying || l.Have != 0 {
					t.Fatalf("after %d failures of the locker %v at the cell %d: %+v", fail, cells, cells[at], l)
				}
				a = withOwner(a, cells[at], nobody)
				for i := range cells {
					if l.Phase == api.LockHolding {
						t.Fatalf("the locker %v has its cells after %d steps", cells, i)
					}
					a, l, _ = locker.Step(a, l, 1)
				}
				l, _ = locker.Free(l)
				for range cells {
					a, l, _ = locker.Step(a, l, 1)
				}
				if text(l) != text(api.Locker{Cells: cells, Phase: api.LockFree, Tries: fail}) || text(a) != text(small(6)) {
					t.Fatalf("the locker %v in the end: %+v, %v", cells, l, owners(a))
				}
			}
		}
	}
}
