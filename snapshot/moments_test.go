package snapshot_test

import (
	"math/rand/v2"
	"testing"

	"shardqueue/api"
	"shardqueue/arena"
	"shardqueue/snapshot"
)

// P14.2: snapshots in an arena whose clock ticks and whose epoch grows.

// run is an arena with snapshots. Each step has the next number; log has the moment of each step up to now, the first one with the number 0.
type run struct {
	a   api.Arena
	l   []api.Snapshot
	log []moment
}

// newRun returns new snapshots in a new arena.
func newRun(t *testing.T, epoch, clock, snapshots int) run {
	t.Helper()
	a, e := arena.New(api.Setup{Slots: 1, Live: 1, Capacity: 1, Dead: 1, Limit: 1, NextID: 1, Epoch: epoch, Clock: clock})
	if e != api.OK {
		t.Fatalf("New: %d", e)
	}
	r := run{a: a}
	for range snapshots {
		r.l = append(r.l, snapshot.New())
	}
	return r
}

// record returns the log with the moment of the present step.
func (r run) record() []moment {
	return append(r.log[:len(r.log):len(r.log)], moment{r.a.Epoch, r.a.Clock})
}

// purge returns the run after a step that makes the epoch greater.
func (r run) purge(t *testing.T, by int) run {
	t.Helper()
	a, ok, e := arena.CAS(r.a, api.WordEpoch, r.a.Epoch, r.a.Epoch+by)
	if !ok || e != api.OK {
		t.Fatalf("CAS of the epoch %d: %t, %d", r.a.Epoch, ok, e)
	}
	return run{a: a, l: r.l, log: r.record()}
}

// tick returns the run after a step that makes the time greater.
func (r run) tick(t *testing.T, by int) run {
	t.Helper()
	a, e := arena.Tick(r.a, by)
	if e != api.OK {
		t.Fatalf("Tick of the time %d: %d", r.a.Clock, e)
	}
	return run{a: a, l: r.l, log: r.record()}
}

// step returns the run after a step of a snapshot, and tests what holds when the snapshot is done.
func (r run) step(t *testing.T, i int) run {
	t.Helper()
	s, e := snapshot.Step(r.a, r.l[i], len(r.log))
	if e != api.OK {
		t.Fatalf("Step of %+v: %d", r.l[i], e)
	}
	next := run{a: r.a, l: append([]api.Snapshot(nil), r.l...), log: r.record()}
	next.l[i] = s
	if s.Phase != api.SnapDone {
		return next
	}
	if s.Stamp < 1 || s.Stamp > len(next.log)-2 {
		t.Fatalf("the snapshot %+v is done at the step %d", s, len(r.log))
	}
	if held := next.log[s.Stamp]; held != (moment{s.Epoch, s.Clock}) {
		t.Fatalf("the snapshot %+v is done after %+v; its step had %+v", s, next.log, held)
	}
	return next
}

func (r run) done(i int) bool {
	return r.l[i].Phase == api.SnapDone
}

// finishes tests that a snapshot that nobody disturbs comes to an end: after the last purge it fails at most once, which takes four steps.
func (r run) finishes(t *testing.T) {
	t.Helper()
	for range 4 {
		if r.done(0) {
			return
		}
		r = r.step(t, 0)
	}
	if !r.done(0) {
		t.Fatalf("after four steps alone: %+v", r.l[0])
	}
}

// explore visits every order of up to some steps, ticks and purges, and returns how many of them end a snapshot.
func (r run) explore(t *testing.T, most int) int {
	t.Helper()
	if r.done(0) {
		return 1
	}
	r.finishes(t)
	if most == 0 {
		return 0
	}
	ends := r.step(t, 0).explore(t, most-1)
	ends += r.tick(t, 1).explore(t, most-1)
	return ends + r.purge(t, 1).explore(t, most-1)
}

// The shortest orders are counted: three steps alone; with one tick at any of 3 places, or a purge before the first step; with two of these (11 orders); and with three of these (26), or with a purge at one of 2 places after the first step and two steps more.
func TestAllOrders(t *testing.T) {
	for most, want := range []int{0, 0, 0, 1, 1 + 4, 1 + 4 + 11, 1 + 4 + 11 + 26 + 2} {
		if ends := newRun(t, 3, 9, 1).explore(t, most); ends != want {
			t.Errorf("%d orders of up to %d steps end a snapshot, want %d", ends, most, want)
		}
	}
	if ends := newRun(t, 0, 0, 1).explore(t, 10); ends < 1000 {
		t.Errorf("%d orders end a snapshot", ends)
	}
}

// Several snapshots, and steps of any size. The words end before they have got to their limits.
func TestRandomOrders(t *testing.T) {
	random := rand.New(rand.NewPCG(14, 1))
	ends, failures := 0, 0
	for range 300 {
		r := newRun(t, random.IntN(2)*60000, random.IntN(2)*(1<<29), 5)
		for range 200 {
			i := random.IntN(9)
			switch {
			case i == 8:
				r = r.purge(t, 1+random.IntN(20))
			case i >= 6:
				r = r.tick(t, random.IntN(1000))
			case i == 5:
				r = r.tick(t, 0)
			case r.done(i):
				r.l[i] = snapshot.New()
				ends++
			default:
				again := r.l[i].Phase == api.SnapAgain
				if r = r.step(t, i); again && !r.done(i) {
					failures++
				}
			}
		}
	}
	if ends < 1000 || failures < 1000 {
		t.Errorf("%d snapshots were done, %d failed once", ends, failures)
	}
}

// Up to the greatest epoch and the greatest time.
func TestLastMoment(t *testing.T) {
	r := newRun(t, api.MaxEpoch-1, api.MaxClock-1, 1)
	r = r.step(t, 0).purge(t, 1).step(t, 0).tick(t, 1).step(t, 0).step(t, 0).step(t, 0)
	if want := (api.Snapshot{Phase: api.SnapDone, Epoch: api.MaxEpoch, Clock: api.MaxClock, Stamp: 5}); r.l[0] != want {
		t.Errorf("%+v, want %+v", r.l[0], want)
	}
}
