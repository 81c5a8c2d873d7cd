package snapshot_test

import (
	"fmt"
	"math"
	"testing"

	"shardqueue/api"
	"shardqueue/arena"
	"shardqueue/snapshot"
)

// extremes are numbers at which sums and comparisons are prone to go wrong.
var extremes = []int{
	math.MinInt, math.MinInt + 1, -1 << 40, -1 << 32, -256, -5, -4, -3, -2, -1, 0, 1, 2, 3, 4, 5, 6,
	127, 128, 255, 256, 257, 258, 259, 65535, 65536, 1 << 30, 1 << 31, 1 << 32, 1<<32 + 1, 1<<32 + 3, 1 << 40, math.MaxInt - 1, math.MaxInt,
}

// epochs and clocks are words of arenas, with the first one and the last one.
var (
	epochs = []int{0, 1, 2, 3, 4, 255, 256, 65535, 65536}
	clocks = []int{0, 1, 3, 10, 11, 65536, 1<<30 - 1, 1 << 30}
)

// started are snapshots with something in all fields that a step may keep, in a phase.
func started(phase int) []api.Snapshot {
	var l []api.Snapshot
	for _, epoch := range []int{-1, 0, 3, 65536, 1<<32 + 3} {
		for _, clock := range []int{0, 10, 1 << 30} {
			for _, stamp := range []int{0, 3, 102, 1<<31 - 1} {
				l = append(l, api.Snapshot{Phase: phase, Epoch: epoch, Clock: clock, Stamp: stamp})
			}
		}
	}
	return l
}

// world returns an arena with an epoch and a time. All cells are locked, and have other epochs and times in them.
func world(epoch, clock int) api.Arena {
	a, _ := arena.New(api.Setup{Slots: 3, Live: 2, Capacity: 2, Dead: 2, Limit: 2, NextID: 777})
	m := api.Message{ID: 771, Route: 772, Epoch: 773, Count: 774, Gen: 775, Sent: 776, Body: "b"}
	a.Slots[0].Shard.Ready = api.Ring{Cells: []api.Message{m, {}}, Size: 1}
	a.Slots[1].Shard.Leases = api.Table{L: []api.Lease{{Msg: m, Deadline: 778}}, Heap: []api.Due{{Deadline: 778, ID: 771}}}
	for slot := range 3 {
		a.Slots[slot].Owner = 7
		a.Stripes[slot] = api.Stripe{Seq: 781, Epoch: 782, Ready: 783, Leased: 784}
	}
	a.Dead = api.DeadCell{Owner: 7, Dead: api.Dead{Cap: 2, L: []api.Message{m}}}
	a.Dir.Version = 785
	a.Epoch, a.Clock = epoch, clock
	return a
}

// returns tests what Step returns, and that the arena stays as it is.
func returns(t *testing.T, a api.Arena, s api.Snapshot, n int, want api.Snapshot, wanted api.Errno) {
	t.Helper()
	before := fmt.Sprintf("%+v", a)
	if got, e := snapshot.Step(a, s, n); got != want || e != wanted {
		t.Errorf("Step %d of %+v with the epoch %d and the time %d is %+v, %d, want %+v, %d", n, s, a.Epoch, a.Clock, got, e, want, wanted)
	}
	if after := fmt.Sprintf("%+v", a); after != before {
		t.Errorf("Step has changed the arena: %s, before %s", after, before)
	}
}

// steps tests what Step returns in all worlds, whatever the number of the step is.
func steps(t *testing.T, s api.Snapshot, want func(epoch, clock, n int) api.Snapshot) {
	t.Helper()
	for _, epoch := range epochs {
		for i, clock := range clocks {
			a := world(epoch, clock)
			for _, n := range []int{1, 102, 1<<31 - 1, extremes[i], extremes[len(extremes)-1-i]} {
				returns(t, a, s, n, want(epoch, clock, n), api.OK)
			}
		}
	}
}

// P14.1

func TestNew(t *testing.T) {
	want := api.Snapshot{Phase: 0, Epoch: 0, Clock: 0, Stamp: 0}
	for range 3 {
		if s := snapshot.New(); s != want {
			t.Errorf("New() = %+v", s)
		}
		snapshot.Step(world(3, 10), snapshot.New(), 5)
	}
}

// The first load keeps the epoch, also if it is the one that the snapshot had before: that of a new one is 0.
func TestFirst(t *testing.T) {
	for _, s := range append(started(api.SnapFirst), snapshot.New()) {
		steps(t, s, func(epoch, clock, n int) api.Snapshot {
			return api.Snapshot{Phase: 1, Epoch: epoch, Clock: s.Clock, Stamp: s.Stamp}
		})
	}
}

// The epoch is not examined when the time is loaded.
func TestClock(t *testing.T) {
	for _, s := range started(api.SnapClock) {
		steps(t, s, func(epoch, clock, n int) api.Snapshot {
			return api.Snapshot{Phase: 2, Epoch: s.Epoch, Clock: clock, Stamp: n}
		})
	}
}

// The time and the stamp stay as they are: the time of this step may be another one.
func TestAgain(t *testing.T) {
	for _, s := range started(api.SnapAgain) {
		steps(t, s, func(epoch, clock, n int) api.Snapshot {
			if epoch == s.Epoch {
				return api.Snapshot{Phase: 3, Epoch: epoch, Clock: s.Clock, Stamp: s.Stamp}
			}
			return api.Snapshot{Phase: 1, Epoch: epoch, Clock: s.Clock, Stamp: s.Stamp}
		})
	}
}

// Every number can be the one of the step that loads the time.
func TestStamps(t *testing.T) {
	for _, n := range extremes {
		s := api.Snapshot{Phase: api.SnapClock, Epoch: 3, Clock: 9, Stamp: 8}
		returns(t, world(3, 10), s, n, api.Snapshot{Phase: api.SnapAgain, Epoch: 3, Clock: 10, Stamp: n}, api.OK)
	}
}

func TestDone(t *testing.T) {
	for _, s := range started(api.SnapDone) {
		for _, epoch := range epochs {
			returns(t, world(epoch, 10), s, 5, api.Snapshot{}, api.ErrState)
		}
		for _, n := range extremes {
			returns(t, api.Arena{}, s, n, api.Snapshot{}, api.ErrState)
		}
	}
}

func TestOtherPhases(t *testing.T) {
	for _, phase := range extremes {
		if 0 <= phase && phase <= 3 {
			continue
		}
		for _, s := range started(phase) {
			for _, n := range []int{0, 1, 102, math.MinInt, math.MaxInt} {
				returns(t, world(3, 10), s, n, api.Snapshot{}, api.ErrRange)
				returns(t, api.Arena{}, s, n, api.Snapshot{}, api.ErrRange)
			}
		}
	}
}

// The whole life of a snapshot

// moment is the epoch and the time of the arena at a step.
type moment struct{ epoch, clock int }

// follows tests a new snapshot step by step; the first step has the number 101.
func follows(t *testing.T, l []moment, want []api.Snapshot) {
	t.Helper()
	s := snapshot.New()
	for i, m := range l {
		var e api.Errno
		if s, e = snapshot.Step(world(m.epoch, m.clock), s, 101+i); e != api.OK || s != want[i] {
			t.Fatalf("after step %d of %v: %+v, %d, want %+v", i+1, l, s, e, want[i])
		}
	}
	returns(t, world(l[0].epoch, l[0].clock), s, 101+len(l), api.Snapshot{}, api.ErrState)
}

// The example of the chapter; the numbers that it leaves out are those of a clock that goes on with every step.
func TestExample(t *testing.T) {
	follows(t, []moment{{3, 9}, {3, 10}, {4, 10}, {4, 11}, {4, 12}}, []api.Snapshot{
		{Phase: api.SnapClock, Epoch: 3},
		{Phase: api.SnapAgain, Epoch: 3, Clock: 10, Stamp: 102},
		{Phase: api.SnapClock, Epoch: 4, Clock: 10, Stamp: 102},
		{Phase: api.SnapAgain, Epoch: 4, Clock: 11, Stamp: 104},
		{Phase: api.SnapDone, Epoch: 4, Clock: 11, Stamp: 104},
	})
}

// Without a purge three steps are enough, even if the clock ticks before each of them.
func TestWithoutPurge(t *testing.T) {
	for _, epoch := range epochs {
		follows(t, []moment{{epoch, 5}, {epoch, 6}, {epoch, 7}}, []api.Snapshot{
			{Phase: api.SnapClock, Epoch: epoch},
			{Phase: api.SnapAgain, Epoch: epoch, Clock: 6, Stamp: 102},
			{Phase: api.SnapDone, Epoch: epoch, Clock: 6, Stamp: 102},
		})
	}
}

// Example 9 of DOC.md: after a purge before or after the load of the time the time is loaded again, even if the clock stands still.
func TestPurgeInBetween(t *testing.T) {
	for _, second := range []moment{{0, 10}, {1, 10}} {
		follows(t, []moment{{0, 10}, second, {1, 10}, {1, 10}, {1, 10}}, []api.Snapshot{
			{Phase: api.SnapClock},
			{Phase: api.SnapAgain, Clock: 10, Stamp: 102},
			{Phase: api.SnapClock, Epoch: 1, Clock: 10, Stamp: 102},
			{Phase: api.SnapAgain, Epoch: 1, Clock: 10, Stamp: 104},
			{Phase: api.SnapDone, Epoch: 1, Clock: 10, Stamp: 104},
		})
	}
}

// As long as there is a purge before each load of the epoch, the snapshot goes on.
func TestManyPurges(t *testing.T) {
	l := []moment{{0, 0}}
	want := []api.Snapshot{{Phase: api.SnapClock}}
	for i := range 1000 {
		stamp := 102 + 2*i
		l = append(l, moment{i, i}, moment{i + 1, i})
		want = append(want,
			api.Snapshot{Phase: api.SnapAgain, Epoch: i, Clock: i, Stamp: stamp},
			api.Snapshot{Phase: api.SnapClock, Epoch: i + 1, Clock: i, Stamp: stamp})
	}
	l = append(l, moment{1000, 1000}, moment{1000, 1001})
	want = append(want,
		api.Snapshot{Phase: api.SnapAgain, Epoch: 1000, Clock: 1000, Stamp: 2102},
		api.Snapshot{Phase: api.SnapDone, Epoch: 1000, Clock: 1000, Stamp: 2102})
	follows(t, l, want)
}

// Rules

// R1: every step returns for all arguments, also with arenas and snapshots that do not come from the packages.
func TestAllArguments(t *testing.T) {
	for _, n := range extremes {
		for phase := -1; phase <= 4; phase++ {
			for _, a := range []api.Arena{{}, {Epoch: n, Clock: n, NextID: n}, {Slots: make([]api.Slot, 1000), Epoch: -n, Clock: n}, world(n, -n)} {
				s := api.Snapshot{Phase: phase, Epoch: n, Clock: n, Stamp: n}
				before := s
				got, e := snapshot.Step(a, s, n)
				if s != before || e != api.OK && got != (api.Snapshot{}) {
					t.Errorf("Step %d of %+v: %+v, %d", n, s, got, e)
				}
				if again, x := snapshot.Step(a, s, n); again != got || x != e {
					t.Errorf("Step %d of %+v once more: %+v, %d, and before %+v, %d", n, s, again, x, got, e)
				}
			}
		}
	}
}
