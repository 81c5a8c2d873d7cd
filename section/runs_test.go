package section_test

import (
	"math/rand/v2"
	"reflect"
	"slices"
	"testing"

	"shardqueue/api"
	"shardqueue/arena"
	"shardqueue/clone"
	"shardqueue/directory"
	"shardqueue/section"
)

// P15.4: several sections in one arena. The worker with the index i is the task i+1.

// worker is a section with its program, and with the arena of the step that loaded its time.
type worker struct {
	s      api.Section
	decide program
	held   api.Arena
}

// crowd is an arena with the workers that use it, after n steps.
type crowd struct {
	a api.Arena
	l []worker
	n int
}

// newCrowd returns an arena without workers, in which nobody has a cell. It has one free slot and some messages.
func newCrowd(t *testing.T, slots int) crowd {
	t.Helper()
	c := crowd{a: world(slots), n: 100}
	for slot := range slots {
		c.a.Stripes[slot].Epoch = epoch
		c.a.Stripes[slot].Ready, c.a.Stripes[slot].Leased = counts(c.a.Slots[slot].Shard, epoch, limit)
	}
	return c
}

// begin returns the crowd with one more worker.
func (c crowd) begin(t *testing.T, cells []int, p program) crowd {
	t.Helper()
	c.l = append(slices.Clone(c.l), worker{s: fresh(t, cells, limit), decide: p})
	return c
}

func (c crowd) over(i int) bool {
	return c.l[i].s.Phase == api.SecDone
}

func (c crowd) allOver() bool {
	return !slices.ContainsFunc(c.l, func(w worker) bool { return w.s.Phase != api.SecDone })
}

// step returns the crowd after a step of a worker, which decides if it has to.
func (c crowd) step(t *testing.T, i int) crowd {
	t.Helper()
	next := crowd{l: slices.Clone(c.l), n: c.n + 1}
	w := &next.l[i]
	var e api.Errno
	if next.a, w.s, e = section.Step(c.a, w.s, i+1, next.n); e != api.OK {
		t.Fatalf("the step %d of the task %d, %+v: %d", next.n, i+1, c.l[i].s, e)
	}
	if w.s.Snap.Stamp == next.n {
		w.held = c.a
	}
	c.checkStep(t, next, i)
	if w.s.Phase == api.SecDecide {
		w.checkHeld(t)
		if w.s, e = section.Decide(w.s, w.decide(w.s)); e != api.OK {
			t.Fatalf("Decide of %+v: %d", w.s, e)
		}
	}
	return next
}

// checkStep tests what holds for each step.
func (c crowd) checkStep(t *testing.T, next crowd, i int) {
	t.Helper()
	if n := changed(c.a, next.a); n > 1 {
		t.Fatalf("a step of %+v changes %d cells of %+v: %+v", c.l[i].s, n, c.a, next.a)
	}
	next.checkLocks(t)
	next.checkStripes(t)
	next.checkMessages(t, c)
	if s := c.l[i].s; s.Phase == api.SecUnmark {
		slot, x := s.Lock.Cells[s.At], s.Stripes[s.At]
		ready, leased := counts(next.a.Slots[slot].Shard, s.Snap.Epoch, limit)
		if want := (api.Stripe{Seq: x.Seq + 1, Epoch: s.Snap.Epoch, Ready: ready, Leased: leased}); next.a.Stripes[slot] != want {
			t.Fatalf("the stripe %d is %+v, want %+v", slot, next.a.Stripes[slot], want)
		}
	}
}

// changed returns how many cells of two arenas are different.
func changed(a, b api.Arena) int {
	n := 0
	count := func(x, y any) {
		if !reflect.DeepEqual(x, y) {
			n++
		}
	}
	for slot := range a.Slots {
		count(a.Slots[slot].Owner, b.Slots[slot].Owner)
		count(a.Slots[slot].Shard, b.Slots[slot].Shard)
		count(a.Stripes[slot], b.Stripes[slot])
	}
	count(a.Dead.Owner, b.Dead.Owner)
	count(a.Dead.Dead, b.Dead.Dead)
	count(a.Dir, b.Dir)
	count([]int{a.Epoch, a.Clock, a.NextID}, []int{b.Epoch, b.Clock, b.NextID})
	return n
}

// checkLocks tests that each worker has just the cells of its locker, and all of its cells from the end of SecLock to the beginning of SecFree.
func (c crowd) checkLocks(t *testing.T) {
	t.Helper()
	want := make([]int, len(c.a.Slots)+1)
	for i, w := range c.l {
		l := w.s.Lock
		for _, cell := range l.Cells[:l.Have] {
			want[cell] = i + 1
		}
		if api.SecMark <= w.s.Phase && w.s.Phase <= api.SecUnmark && (l.Have != len(l.Cells) || l.Phase != api.LockHolding) {
			t.Fatalf("the section %+v has not all of its cells", w.s)
		}
	}
	var got []int
	for _, s := range c.a.Slots {
		got = append(got, s.Owner)
	}
	if got = append(got, c.a.Dead.Owner); !slices.Equal(got, want) {
		t.Fatalf("the cells belong to %v, want %v", got, want)
	}
}

// checkStripes tests that just the stripes are odd that a worker has marked, and not unmarked yet.
func (c crowd) checkStripes(t *testing.T) {
	t.Helper()
	want := make([]bool, len(c.a.Slots))
	for _, w := range c.l {
		for i, cell := range w.s.Lock.Cells {
			marked := w.s.Phase == api.SecMark && i < w.s.At/2
			marked = marked || api.SecLoad <= w.s.Phase && w.s.Phase < api.SecUnmark
			marked = marked || w.s.Phase == api.SecUnmark && i >= w.s.At
			if marked && cell < len(want) {
				want[cell] = true
			}
		}
	}
	for slot, x := range c.a.Stripes {
		if x.Seq%2 == 1 != want[slot] {
			t.Fatalf("the stripes are %+v, and marked are %v", c.a.Stripes, want)
		}
	}
}

// messages returns all messages of the arena, and those that are on their way in a section, by their ids.
func (c crowd) messages(t *testing.T) map[int]api.Message {
	t.Helper()
	l := slices.Clone(c.a.Dead.Dead.L)
	for _, s := range c.a.Slots {
		l = append(l, all(s.Shard)...)
	}
	for _, w := range c.l {
		l = append(l, w.s.Carry...)
		if several := len(w.s.Out.Order) > 1; len(w.s.Carry) > 0 && (w.s.Phase != api.SecStore || w.s.At == 0 || !several) {
			t.Fatalf("the section %+v carries messages", w.s)
		}
	}
	byID := map[int]api.Message{}
	for _, m := range l {
		if _, twice := byID[m.ID]; twice {
			t.Fatalf("the message %d is in two places: %+v", m.ID, c)
		}
		byID[m.ID] = m
	}
	return byID
}

// checkMessages tests that each message is in one place, and that none gets lost that is not purged.
func (c crowd) checkMessages(t *testing.T, before crowd) {
	t.Helper()
	after := c.messages(t)
	for id, m := range before.messages(t) {
		if _, kept := after[id]; !kept && m.Epoch >= c.a.Epoch {
			t.Fatalf("the message %d got lost: %+v, before %+v", id, c, before)
		}
	}
}

// checkHeld tests that what a section has loaded held together when it loaded the time.
func (w worker) checkHeld(t *testing.T) {
	t.Helper()
	if w.s.Snap.Epoch != w.held.Epoch || w.s.Snap.Clock != w.held.Clock {
		t.Fatalf("the snapshot is %+v, and there was the time %d in the epoch %d", w.s.Snap, w.held.Clock, w.held.Epoch)
	}
	for i, cell := range w.s.Lock.Cells {
		if cell == len(w.held.Slots) {
			if text(w.s.Dead) != text(w.held.Dead.Dead) {
				t.Fatalf("the dead letters are %+v, and there were %+v", w.s.Dead, w.held.Dead.Dead)
			}
			continue
		}
		x := w.s.Shards[i]
		if text(x) != text(w.held.Slots[cell].Shard) {
			t.Fatalf("the shard %d is %+v, and there was %+v", cell, x, w.held.Slots[cell].Shard)
		}
		span, live := directory.Span(w.held.Dir, cell)
		if live != x.Live || span.Low != x.Low || span.High != x.High {
			t.Fatalf("the shard %d is %+v, and its span was %+v, %t", cell, x, span, live)
		}
	}
}

// checkEnd tests that sections that are over leave nothing behind.
func (c crowd) checkEnd(t *testing.T) {
	t.Helper()
	for slot, x := range c.a.Slots {
		y := c.a.Stripes[slot]
		ready, leased := counts(x.Shard, y.Epoch, limit)
		if x.Owner != nobody || y.Seq%2 != 0 || y.Ready != ready || y.Leased != leased {
			t.Fatalf("at the end the slot %d is %+v, with the stripe %+v", slot, x, y)
		}
	}
	for _, w := range c.l {
		if w.s.Lock.Phase != api.LockFree || w.s.At != 0 || len(w.s.Carry) > 0 {
			t.Fatalf("at the end a section is %+v", w.s)
		}
	}
	if c.a.Dead.Owner != nobody || directory.Validate(c.a.Dir) != api.OK {
		t.Fatalf("at the end: %+v", c.a)
	}
}

// finish steps the workers in turn until all of them are over, and returns the crowd then.
func (c crowd) finish(t *testing.T) crowd {
	t.Helper()
	for range 1000 {
		if c.allOver() {
			c.checkEnd(t)
			return c
		}
		for i := range c.l {
			if !c.over(i) {
				c = c.step(t, i)
			}
		}
	}
	t.Fatalf("after 1000 rounds: %+v", c)
	return c
}

// key writes what decides how a crowd goes on: the numbers of the steps do not matter, and after three failures of a locker their number does not, either.
func (c crowd) key() string {
	var l []any
	for _, w := range c.l {
		s := clone.Section(w.s)
		s.Lock.Tries, s.Snap.Stamp = min(s.Lock.Tries, 3), 0
		l = append(l, s, w.held)
	}
	return text(c.a, l)
}

// explore goes to all crowds that any order of steps leads to, and tests each step. It returns the number of crowds, and of those in which all workers are over.
func (c crowd) explore(t *testing.T) (crowds, ends int) {
	t.Helper()
	known, work := map[string]bool{c.key(): true}, []crowd{c}
	for len(work) > 0 {
		c, work = work[len(work)-1], work[:len(work)-1]
		if c.allOver() {
			c.checkEnd(t)
			ends++
		}
		for i := range c.l {
			if c.over(i) {
				continue
			}
			next := c.step(t, i)
			if k := next.key(); !known[k] {
				known[k] = true
				work = append(work, next)
			}
		}
	}
	return len(known), ends
}

// Two sections in any order of their steps.
func TestAllOrdersOfTwo(t *testing.T) {
	type job struct {
		cells []int
		p     program
	}
	for _, x := range []struct{ first, second job }{
		{job{[]int{0}, put(77)}, job{[]int{0}, take}},
		{job{[]int{0}, put(77)}, job{[]int{0, 2}, split(0)}},
		{job{[]int{0, 1}, merge(0)}, job{[]int{1, 2}, split(0)}},
		{job{[]int{0, 2}, split(0)}, job{[]int{1, 2}, split(0)}},
		{job{[]int{0, 1}, steal(1)}, job{[]int{1, 3}, bury}},
		{job{[]int{0, 3}, redrive}, job{[]int{1, 3}, bury}},
		{job{[]int{3}, clean}, job{[]int{0, 3}, bury}},
		{job{[]int{0, 1, 2}, clean}, job{[]int{0, 1}, merge(1)}},
	} {
		c := newCrowd(t, 3).begin(t, x.first.cells, x.first.p).begin(t, x.second.cells, x.second.p)
		if crowds, ends := c.explore(t); crowds < 40 || ends < 1 {
			t.Errorf("the sections of %v and %v: %d crowds, %d ends", x.first.cells, x.second.cells, crowds, ends)
		}
		c.finish(t)
	}
}

// Two sections without a common cell meet only at the directory: each of them changes it.
func TestTwoEdits(t *testing.T) {
	c := newCrowd(t, 6)
	c = c.begin(t, []int{0, 5}, split(0)).begin(t, []int{3, 4}, merge(0))
	c = c.finish(t)
	if c.a.Dir.Version != 3 || !c.a.Slots[5].Shard.Live || c.a.Slots[3].Shard.Live {
		t.Errorf("after two edits: %+v", c.a)
	}
}

// randomJob returns some cells, and a program for them.
func randomJob(random *rand.Rand, slots, id int) ([]int, string, program) {
	from := random.IntN(2)
	l := random.Perm(slots)
	two := []int{min(l[0], l[1]), max(l[0], l[1])}
	withDead := []int{l[0], slots}
	switch random.IntN(16) {
	case 0, 1, 2:
		return l[:1], "put", put(id)
	case 3, 4, 5:
		return l[:1], "take", take
	case 6:
		return two, "steal", steal(from)
	case 7:
		return two, "split", split(from)
	case 8:
		return two, "merge", merge(from)
	case 9, 10, 11:
		return withDead, "bury", bury
	case 12, 13, 14:
		return withDead, "redrive", redrive
	}
	cells := random.Perm(slots + 1)[:1+random.IntN(3)]
	slices.Sort(cells)
	return cells, "clean", clean
}

// disturb returns the crowd after a tick or a purge.
func (c crowd) disturb(t *testing.T, random *rand.Rand) crowd {
	t.Helper()
	var e api.Errno
	if c.n++; random.IntN(9) > 0 {
		c.a, e = arena.Tick(c.a, random.IntN(3))
	} else {
		c.a, _, e = arena.CAS(c.a, api.WordEpoch, c.a.Epoch, c.a.Epoch+1)
	}
	if e != api.OK {
		t.Fatalf("a tick or purge: %d", e)
	}
	return c
}

// note counts what happens in a step that does not happen in each section.
func note(met map[string]int, before, after api.Section, name string) {
	if before.Phase == api.SecLock && after.Phase == api.SecLock && after.Lock.Phase == api.LockLeaving {
		met["a locker leaves"]++
	}
	if after.Phase == api.SecSnap && before.Snap.Phase == api.SnapAgain && after.Snap.Phase == api.SnapClock {
		met["a snapshot loads again"]++
	}
	if after.Phase == api.SecEdit && before.At == 1 && after.At == 0 {
		met["a directory is loaded again"]++
	}
	if after.Phase == api.SecDone && len(after.Out.Order) > 0 {
		met[name]++
	}
}

// Sections of many kinds, one after the other in each of six tasks, stepped at random.
func TestRandomRuns(t *testing.T) {
	met := map[string]int{}
	for seed := range uint64(40) {
		random := rand.New(rand.NewPCG(15, seed))
		c, names := newCrowd(t, 6), make([]string, 6)
		for i := range names {
			cells, name, p := randomJob(random, 6, 1000+i)
			c, names[i] = c.begin(t, cells, p), name
		}
		for range 1200 {
			if random.IntN(15) == 0 {
				c = c.disturb(t, random)
				continue
			}
			i := random.IntN(len(c.l))
			if c.over(i) {
				cells, name, p := randomJob(random, 6, 1000+c.n)
				c.l = slices.Clone(c.l)
				c.l[i], names[i] = worker{s: fresh(t, cells, limit), decide: p}, name
			}
			before := c.l[i].s
			c = c.step(t, i)
			note(met, before, c.l[i].s, names[i])
		}
		c.finish(t)
	}
	for _, name := range []string{"a locker leaves", "a snapshot loads again", "a directory is loaded again", "put", "take", "steal", "split", "merge", "bury", "redrive", "clean"} {
		if met[name] < 5 {
			t.Errorf("too seldom: %s, in %v", name, met)
		}
	}
}
