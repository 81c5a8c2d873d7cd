package locker_test

import (
	"math/rand/v2"
	"slices"
	"testing"

	"shardqueue/api"
	"shardqueue/locker"
)

// P13.3: several lockers in one arena. The locker with the index i belongs to the task i+1.

// crowd is an arena with the lockers that use it.
type crowd struct {
	a api.Arena
	l []api.Locker
}

// newCrowd returns new lockers in an arena in which nobody has a cell.
func newCrowd(t *testing.T, slots int, cells ...[]int) crowd {
	t.Helper()
	c := crowd{a: small(slots)}
	for _, x := range cells {
		l, e := locker.New(x)
		if e != api.OK {
			t.Fatalf("New(%v): %d", x, e)
		}
		c.l = append(c.l, l)
	}
	return c
}

// over reports whether a locker got all of its cells and has given them back.
func (c crowd) over(i int) bool {
	return c.l[i].Phase == api.LockFree
}

func (c crowd) allOver() bool {
	return !slices.ContainsFunc(c.l, func(l api.Locker) bool { return l.Phase != api.LockFree })
}

// step returns the crowd after a step of a locker, which gives back its cells if it has all of them.
func (c crowd) step(t *testing.T, i int) crowd {
	t.Helper()
	l, e := c.l[i], api.OK
	if l.Phase == api.LockHolding {
		if l, e = locker.Free(l); e != api.OK {
			t.Fatalf("Free(%+v): %d", c.l[i], e)
		}
	}
	next := crowd{l: slices.Clone(c.l)}
	if next.a, next.l[i], e = locker.Step(c.a, l, i+1); e != api.OK {
		t.Fatalf("Step of %+v, %v: %d", l, owners(c.a), e)
	}
	c.checkStep(t, next, i)
	return next
}

// checkStep tests what holds for each step of a locker: only its own task gets or gives back cells, and the task has just the first cells of the locker.
func (c crowd) checkStep(t *testing.T, next crowd, i int) {
	t.Helper()
	task, before := i+1, owners(c.a)
	var has []int
	for cell, owner := range owners(next.a) {
		if owner == task {
			has = append(has, cell)
		}
		taken, givenBack := before[cell] == nobody && owner == task, before[cell] == task && owner == nobody
		if owner != before[cell] && !taken && !givenBack {
			t.Fatalf("a step of the task %d gives the cell %d from %d to %d", task, cell, before[cell], owner)
		}
	}
	l := next.l[i]
	if l.Have < 0 || l.Have > len(l.Cells) || !slices.Equal(has, l.Cells[:l.Have]) {
		t.Fatalf("the task %d has the cells %v and the locker %+v", task, has, l)
	}
	if (l.Have == 0) != (l.Phase == api.LockPausing || l.Phase == api.LockFree || l.Phase == api.LockTrying && l.Have == 0) {
		t.Fatalf("the locker %+v has %v", l, has)
	}
	if (l.Phase == api.LockHolding) != (l.Have == len(l.Cells) && l.Phase != api.LockFreeing) {
		t.Fatalf("the locker %+v has %v", l, has)
	}
	if l.Phase == api.LockTrying && len(has) > 0 && l.Cells[l.Have] <= slices.Max(has) {
		t.Fatalf("the locker %+v waits for a cell, and has %v", l, has)
	}
}

// key is what decides how a crowd of up to three lockers goes on: who has a cell follows from the lockers, and after three failures the number of failures does not matter any more.
type key [3][4]int

func (c crowd) key() key {
	var k key
	for i, l := range c.l {
		k[i] = [4]int{l.Phase, l.Have, min(l.Tries, 3), l.Wait}
	}
	return k
}

// takesTurns tests that the lockers of a crowd come to an end if they are stepped in turn. The crowds at the beginning of a round that are known to come to an end are kept.
func takesTurns(t *testing.T, c crowd, ends map[key]bool) {
	t.Helper()
	var way []key
	for !c.allOver() && !ends[c.key()] {
		if slices.Contains(way, c.key()) {
			t.Fatalf("the lockers %+v never get all of their cells", c.l)
		}
		way = append(way, c.key())
		for i := range c.l {
			if !c.over(i) {
				c = c.step(t, i)
			}
		}
	}
	for _, k := range way {
		ends[k] = true
	}
}

// explore goes from new lockers to all crowds that any order of steps leads to, and tests each step, and that the lockers of each crowd come to an end if they are stepped in turn from there on. It returns the number of crowds.
func explore(t *testing.T, slots int, cells ...[]int) int {
	t.Helper()
	first := newCrowd(t, slots, cells...)
	ends, known, work := map[key]bool{}, map[key]bool{first.key(): true}, []crowd{first}
	for len(work) > 0 {
		c := work[len(work)-1]
		work = work[:len(work)-1]
		takesTurns(t, c, ends)
		for i := range c.l {
			if c.over(i) {
				continue
			}
			if next := c.step(t, i); !known[next.key()] {
				known[next.key()] = true
				work = append(work, next)
			}
		}
	}
	return len(known)
}

// Two lockers of any cells of an arena with four lockable cells, in any order of steps.
func TestAllOrdersOfTwo(t *testing.T) {
	for _, x := range lists(3) {
		for _, y := range lists(3) {
			if n := explore(t, 3, x, y); n < 8 {
				t.Errorf("the lockers %v and %v come to %d crowds", x, y, n)
			}
		}
	}
}

// Three lockers of any cells of an arena with three lockable cells, in any order of steps.
func TestAllOrdersOfThree(t *testing.T) {
	all := lists(2)
	for _, x := range all {
		for _, y := range all {
			for _, z := range all {
				if n := explore(t, 2, x, y, z); n < 20 {
					t.Errorf("the lockers %v, %v and %v come to %d crowds", x, y, z, n)
				}
			}
		}
	}
}

// Three lockers that get into each other's way in many ways.
func TestAllOrdersOfThreeWithFourCells(t *testing.T) {
	for _, cells := range [][3][]int{
		{{0, 1}, {1, 2}, {2, 3}},
		{{0, 1, 2}, {1, 2, 3}, {0, 2, 3}},
		{{0, 3}, {1, 3}, {3}},
		{{0, 1, 3}, {1, 2, 3}, {2}},
	} {
		if n := explore(t, 3, cells[0], cells[1], cells[2]); n < 1000 {
			t.Errorf("the lockers %v come to %d crowds", cells, n)
		}
	}
}

// finish steps the lockers in turn, in an order, until all of them are over; a locker that has its cells keeps them for some rounds. It returns the number of rounds.
func finish(t *testing.T, c crowd, order, keep []int) int {
	t.Helper()
	left := slices.Clone(keep)
	for round := range 10000 {
		if c.allOver() {
			return round
		}
		for _, i := range order {
			if c.over(i) {
				continue
			}
			if c.l[i].Phase == api.LockHolding && left[i] > 0 {
				left[i]--
				continue
			}
			c = c.step(t, i)
		}
	}
	t.Fatalf("after 10000 rounds in the order %v: %+v", order, c.l)
	return 0
}

// Up to eight lockers of any cells, each one with its own time to keep them.
func TestTurnsOfMany(t *testing.T) {
	random := rand.New(rand.NewPCG(13, 1))
	all := lists(6)
	for range 400 {
		var cells [][]int
		var keep []int
		for range 1 + random.IntN(8) {
			cells = append(cells, all[random.IntN(len(all))])
			keep = append(keep, random.IntN(20))
		}
		finish(t, newCrowd(t, 6, cells...), random.Perm(len(cells)), keep)
	}
}

// Eight lockers of the same cells get them one after the other.
func TestTurnsOfEqualLockers(t *testing.T) {
	random := rand.New(rand.NewPCG(13, 2))
	for _, cells := range lists(6) {
		for _, keep := range []int{0, 1, 9} {
			order := random.Perm(8)
			rounds := finish(t, newCrowd(t, 6, slices.Repeat([][]int{cells}, 8)...), order, slices.Repeat([]int{keep}, 8))
			if least := 8 * len(cells); rounds < least {
				t.Errorf("eight lockers of %v take %d rounds, at least %d are needed", cells, rounds, least)
			}
		}
	}
}

// Lockers that are stepped at random: a cell belongs to at most one of them, and in the end all of them got what they wanted.
func TestRandomOrders(t *testing.T) {
	random := rand.New(rand.NewPCG(13, 3))
	all := lists(6)
	for range 200 {
		var cells [][]int
		for range 2 + random.IntN(7) {
			cells = append(cells, all[random.IntN(len(all))])
		}
		c, got := newCrowd(t, 6, cells...), make([]bool, len(cells))
		for range 20000 {
			i := random.IntN(len(cells))
			if c.over(i) {
				continue
			}
			c = c.step(t, i)
			if c.l[i].Phase == api.LockHolding {
				got[i] = true
			}
			if c.allOver() {
				break
			}
		}
		if !c.allOver() || slices.Contains(got, false) || text(c.a) != text(small(6)) {
			t.Fatalf("the lockers %+v, got %v, owners %v", c.l, got, owners(c.a))
		}
	}
}

// Lockers of different cells do not get into each other's way.
func TestDifferentCells(t *testing.T) {
	random := rand.New(rand.NewPCG(13, 4))
	for range 100 {
		cells := random.Perm(7)
		x, y := slices.Sorted(slices.Values(cells[:3])), slices.Sorted(slices.Values(cells[3:6]))
		if rounds := finish(t, newCrowd(t, 6, x, y, cells[6:]), random.Perm(3), []int{0, 0, 0}); rounds != 6 {
			t.Errorf("the lockers %v, %v and %v take %d rounds", x, y, cells[6:], rounds)
		}
	}
}

// Example 10 of DOC.md: two merges lock the slots 0 and 1, and 1 and 2; each one has got its first slot before the first one wants its second.
func TestTwoMerges(t *testing.T) {
	c := newCrowd(t, 3, []int{0, 1}, []int{1, 2})
	for _, x := range []struct {
		i      int
		phase  int
		owners []int
	}{
		{0, api.LockTrying, []int{1, 0, 0, 0}},
		{1, api.LockTrying, []int{1, 2, 0, 0}},
		{0, api.LockLeaving, []int{1, 2, 0, 0}},
		{1, api.LockHolding, []int{1, 2, 2, 0}},
		{0, api.LockPausing, []int{0, 2, 2, 0}},
		{1, api.LockFreeing, []int{0, 2, 0, 0}},
		{0, api.LockTrying, []int{0, 2, 0, 0}},
		{1, api.LockFree, []int{0, 0, 0, 0}},
		{0, api.LockTrying, []int{1, 0, 0, 0}},
		{0, api.LockHolding, []int{1, 1, 0, 0}},
	} {
		c = c.step(t, x.i)
		if c.l[x.i].Phase != x.phase || !slices.Equal(owners(c.a), x.owners) {
			t.Fatalf("%+v, %v, want %+v", c.l, owners(c.a), x)
		}
	}
}
