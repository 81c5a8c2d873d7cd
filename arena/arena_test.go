package arena_test

import (
	"fmt"
	"slices"
	"testing"

	"shardqueue/api"
	"shardqueue/arena"
)

// returns tests what a function returns, and that its argument stays as it is.
func returns(t *testing.T, name string, a api.Arena, x arguments, want result) {
	t.Helper()
	before := plain(a)
	if got := named(name).call(a, x); !sameResult(got, want) {
		t.Errorf("%s of %+v in %+v\nis   %+v\nwant %+v", name, x, a, got, want)
	}
	if !same(a, before) {
		t.Errorf("%s has changed its argument: %+v, before %+v", name, a, before)
	}
}

// fails tests that a function returns an error, and nothing else.
func fails(t *testing.T, name string, a api.Arena, x arguments, want api.Errno) {
	t.Helper()
	returns(t, name, a, x, result{e: want})
}

// changes tests that a function changes exactly one cell, and returns the new arena.
func changes(t *testing.T, name string, a api.Arena, x arguments, cell string) api.Arena {
	t.Helper()
	before := plain(a)
	r := named(name).call(a, x)
	if l := changed(before, r.a); r.e != api.OK || !slices.Equal(l, []string{cell}) {
		t.Errorf("%s of %+v in %+v changes %v, and its error is %d; it has to change %s", name, x, a, l, r.e, cell)
	}
	if !same(a, before) {
		t.Errorf("%s has changed its argument: %+v, before %+v", name, a, before)
	}
	return r.a
}

// fault makes arguments, or an arena, such that a function fails with an error.
type fault struct {
	name  string
	spoil func(a *api.Arena, x *arguments)
	e     api.Errno
}

// failsInOrder tests that a function that gets any of the faults together returns the error of the first one. Without a fault it has to succeed.
func failsInOrder(t *testing.T, name string, a api.Arena, x func() arguments, faults []fault) {
	t.Helper()
	for set := range 1 << len(faults) {
		a, x := plain(a), x()
		want := api.OK
		for i := len(faults) - 1; i >= 0; i-- {
			if set>>i&1 == 1 {
				faults[i].spoil(&a, &x)
				want = faults[i].e
			}
		}
		if want != api.OK {
			fails(t, name, a, x, want)
		} else if r := named(name).call(a, x); r.e != api.OK {
			t.Errorf("%s of %+v in %+v: %d", name, x, a, r.e)
		}
	}
}

// P12.1

func TestNew(t *testing.T) {
	want := api.Arena{
		Slots: []api.Slot{
			{Shard: api.Shard{Live: true, Low: 0, High: 32767, Ready: api.Ring{Cells: make([]api.Message, 4)}}},
			{Shard: api.Shard{Live: true, Low: 32768, High: 65535, Ready: api.Ring{Cells: make([]api.Message, 4)}}},
			{Shard: api.Shard{Ready: api.Ring{Cells: make([]api.Message, 4)}}},
		},
		Stripes: []api.Stripe{{Epoch: 3}, {Epoch: 3}, {Epoch: 3}},
		Dead:    api.DeadCell{Dead: api.Dead{Cap: 5}},
		Dir:     api.Directory{Version: 1, L: []api.Span{{Low: 0, High: 32767, Shard: 0}, {Low: 32768, High: 65535, Shard: 1}}, Forward: []int{-1, -1, -1}},
		Epoch:   3, Clock: 10, NextID: 7,
	}
	a, e := arena.New(api.Setup{Slots: 3, Live: 2, Capacity: 4, Dead: 5, Limit: 2, Clock: 10, NextID: 7, Epoch: 3})
	if e != api.OK || !same(a, want) {
		t.Errorf("New: %+v, %d, want %+v", a, e, want)
	}
}

// The worlds of DOC.md's examples have this setup.
func TestNewOfTheExamples(t *testing.T) {
	a, e := arena.New(api.Setup{Slots: 2, Live: 2, Capacity: 3, Dead: 2, Limit: 2, Clock: 0, NextID: 1, Epoch: 0})
	want := api.Arena{
		Slots: []api.Slot{
			{Shard: api.Shard{Live: true, Low: 0, High: 32767, Ready: api.Ring{Cells: make([]api.Message, 3)}}},
			{Shard: api.Shard{Live: true, Low: 32768, High: 65535, Ready: api.Ring{Cells: make([]api.Message, 3)}}},
		},
		Stripes: []api.Stripe{{}, {}},
		Dead:    api.DeadCell{Dead: api.Dead{Cap: 2}},
		Dir:     api.Directory{Version: 1, L: []api.Span{{Low: 0, High: 32767, Shard: 0}, {Low: 32768, High: 65535, Shard: 1}}, Forward: []int{-1, -1}},
		NextID:  1,
	}
	if e != api.OK || !same(a, want) {
		t.Errorf("New: %+v, %d, want %+v", a, e, want)
	}
}

func TestNewOfAllSizes(t *testing.T) {
	for slots := 1; slots <= 6; slots++ {
		for live := 1; live <= slots; live++ {
			for capacity := 1; capacity <= 12; capacity++ {
				for _, d := range []int{1, 2, 12, 23, 24} {
					x := arguments{setup: api.Setup{Slots: slots, Live: live, Capacity: capacity, Dead: d, Limit: 1 + capacity%8, Clock: 100 + d, NextID: 200 + d, Epoch: 300 + d}}
					returns(t, "New", api.Arena{}, x, result{a: fresh(x.setup)})
				}
			}
		}
	}
}

// The spans of all numbers of live slots, written down one by one.
func TestNewSpans(t *testing.T) {
	for live, highs := range [][]int{
		1: {65535},
		2: {32767, 65535},
		3: {21844, 43689, 65535},
		4: {16383, 32767, 49151, 65535},
		5: {13106, 26213, 39320, 52427, 65535},
		6: {10921, 21844, 32767, 43689, 54612, 65535},
	} {
		if live == 0 {
			continue
		}
		a, _ := arena.New(api.Setup{Slots: 6, Live: live, Capacity: 1, Dead: 1, Limit: 1, NextID: 1})
		low := 0
		for slot, high := range highs {
			if s := a.Slots[slot].Shard; !s.Live || s.Low != low || s.High != high || a.Dir.L[slot] != (api.Span{Low: low, High: high, Shard: slot}) {
				t.Errorf("slot %d of %d live ones: %+v, %+v", slot, live, s, a.Dir.L[slot])
			}
			low = high + 1
		}
		for slot := live; slot < 6; slot++ {
			if s := a.Slots[slot].Shard; s.Live || s.Low != 0 || s.High != 0 {
				t.Errorf("slot %d of %d live ones: %+v", slot, live, s)
			}
		}
	}
}

// Each field is accepted from its least value to its greatest one, whatever the others are.
func TestNewRanges(t *testing.T) {
	for _, other := range []api.Setup{
		setup,
		{Slots: 6, Live: 6, Capacity: 12, Dead: 24, Limit: 8, Clock: 1 << 30, NextID: 1 << 30, Epoch: 65536},
		{Slots: 1, Live: 1, Capacity: 1, Dead: 1, Limit: 1, Clock: 0, NextID: 1, Epoch: 0},
	} {
		for i, field := range []func(s *api.Setup) *int{
			func(s *api.Setup) *int { return &s.Slots }, func(s *api.Setup) *int { return &s.Live }, func(s *api.Setup) *int { return &s.Capacity }, func(s *api.Setup) *int { return &s.Dead },
			func(s *api.Setup) *int { return &s.Limit }, func(s *api.Setup) *int { return &s.Clock }, func(s *api.Setup) *int { return &s.NextID }, func(s *api.Setup) *int { return &s.Epoch },
		} {
			low := []int{other.Live, 1, 1, 1, 1, 0, 1, 0}[i]
			high := []int{6, other.Slots, 12, 24, 8, 1 << 30, 1 << 30, 65536}[i]
			for _, n := range append([]int{low - 1, low, low + 1, high - 1, high, high + 1}, extremes...) {
				x := arguments{setup: other}
				*field(&x.setup) = n
				if in(n, low, high) {
					returns(t, "New", api.Arena{}, x, result{a: fresh(x.setup)})
				} else {
					fails(t, "New", api.Arena{}, x, api.ErrRange)
				}
			}
		}
	}
}

// P12.2

// The example of the chapter.
func TestExample(t *testing.T) {
	a, _ := arena.New(setup)
	a, ok, e := arena.TryLock(a, 0, 1)
	if !ok || e != api.OK {
		t.Errorf("TryLock by the task 1: %t, %d", ok, e)
	}
	if _, ok, e := arena.TryLock(a, 0, 2); ok || e != api.OK {
		t.Errorf("TryLock by the task 2: %t, %d", ok, e)
	}
}

// tasks are some tasks, with the first one and the last one.
var tasks = []int{1, 2, 3, 5, 127, 128, 199, 200}

func TestLockEachCell(t *testing.T) {
	free := fresh(setup)
	for cell := 0; cell <= 4; cell++ {
		for task := 1; task <= 200; task++ {
			x := arguments{cell: cell, task: task}
			locked := withOwner(free, cell, task)
			returns(t, "TryLock", free, x, result{a: locked, ok: true})
			fails(t, "Unlock", free, x, api.ErrOwner)
			returns(t, "TryLock", locked, x, result{a: locked})
			returns(t, "Unlock", locked, x, result{a: free})
		}
	}
}

// A cell that is locked belongs to one task alone, also if the other one has locked all others.
func TestLockedCells(t *testing.T) {
	for cell := 0; cell <= 4; cell++ {
		for _, owner := range tasks {
			for _, task := range tasks {
				if task == owner {
					continue
				}
				a := fresh(setup)
				for other := 0; other <= 4; other++ {
					a = withOwner(a, other, task)
				}
				a = withOwner(a, cell, owner)
				x := arguments{cell: cell, task: task}
				returns(t, "TryLock", a, x, result{a: a})
				fails(t, "Unlock", a, x, api.ErrOwner)
			}
		}
	}
}

// The locks of all cells are independent of each other and of all other cells.
func TestLocksAreIndependent(t *testing.T) {
	all := usual()
	for set := range 1 << 5 {
		a := busy()
		for cell := range 5 {
			a = withOwner(a, cell, set>>cell&1*(cell+1))
		}
		for cell := range 5 {
			x := all
			x.cell, x.task = cell, cell+1
			if set>>cell&1 == 1 {
				returns(t, "TryLock", a, x, result{a: a})
				returns(t, "Unlock", a, x, result{a: withOwner(a, cell, 0)})
			} else {
				returns(t, "TryLock", a, x, result{a: withOwner(a, cell, cell+1), ok: true})
				fails(t, "Unlock", a, x, api.ErrOwner)
			}
		}
	}
}

// With any number of slots, the cell behind the last one is the dead-letter cell, and there is none behind it.
func TestLockableCells(t *testing.T) {
	for slots := 1; slots <= 6; slots++ {
		free := fresh(api.Setup{Slots: slots, Live: 1, Capacity: 1, Dead: 1, Limit: 1, NextID: 1})
		for _, cell := range extremes {
			for _, task := range extremes {
				x := arguments{cell: cell, task: task}
				if cell < 0 || cell > slots || task < 1 || task > 200 {
					fails(t, "TryLock", free, x, api.ErrRange)
					fails(t, "Unlock", free, x, api.ErrRange)
					continue
				}
				returns(t, "TryLock", free, x, result{a: withOwner(free, cell, task), ok: true})
				fails(t, "Unlock", free, x, api.ErrOwner)
			}
		}
	}
}

// A number that is no cell or no task is the first error, also if there is a cell that is locked or free.
func TestLockRangeFirst(t *testing.T) {
	for _, a := range []api.Arena{fresh(setup), busy()} {
		for _, x := range []arguments{{cell: -1, task: 5}, {cell: 5, task: 5}, {cell: 1, task: 0}, {cell: 1, task: 201}, {cell: 0, task: 0}, {cell: 4, task: 0}, {cell: 4, task: -5}, {cell: 5, task: 0}} {
			fails(t, "TryLock", a, x, api.ErrRange)
			fails(t, "Unlock", a, x, api.ErrRange)
		}
	}
}

// P12.3

func TestLoads(t *testing.T) {
	a := busy()
	for slot := range 4 {
		returns(t, "LoadSlot", a, arguments{cell: slot}, result{shard: busy().Slots[slot].Shard})
		returns(t, "LoadStripe", a, arguments{cell: slot}, result{stripe: busy().Stripes[slot]})
	}
	returns(t, "LoadDead", a, arguments{}, result{dead: busy().Dead.Dead})
	returns(t, "LoadDir", a, arguments{}, result{dir: busy().Dir})
}

// Nobody needs a lock to load.
func TestLoadsOfLockedCells(t *testing.T) {
	for cell := range 5 {
		for _, task := range tasks {
			a := withOwner(busy(), cell, task)
			for slot := range 4 {
				returns(t, "LoadSlot", a, arguments{cell: slot}, result{shard: busy().Slots[slot].Shard})
				returns(t, "LoadStripe", a, arguments{cell: slot}, result{stripe: busy().Stripes[slot]})
			}
			returns(t, "LoadDead", a, arguments{}, result{dead: busy().Dead.Dead})
		}
	}
}

// The dead-letter cell is no slot.
func TestSlotsOutOfRange(t *testing.T) {
	for slots := 1; slots <= 6; slots++ {
		free := fresh(api.Setup{Slots: slots, Live: slots, Capacity: 3, Dead: 1, Limit: 1, NextID: 1})
		for _, slot := range extremes {
			x := usual()
			x.cell, x.task = slot, 5
			if in(slot, 0, slots-1) {
				locked := withOwner(free, slot, 5)
				returns(t, "LoadSlot", free, x, result{shard: free.Slots[slot].Shard})
				returns(t, "LoadStripe", free, x, result{stripe: api.Stripe{}})
				changes(t, "StoreSlot", locked, x, fmt.Sprintf("shard %d", slot))
				changes(t, "StoreStripe", locked, x, fmt.Sprintf("stripe %d", slot))
				continue
			}
			all := free
			for cell := range slots + 1 {
				all = withOwner(all, cell, 5)
			}
			for _, a := range []api.Arena{free, all} {
				for _, name := range []string{"LoadSlot", "LoadStripe", "StoreSlot", "StoreStripe"} {
					fails(t, name, a, x, api.ErrRange)
				}
			}
		}
	}
}

// shards are valid shards with the capacity 3.
func shards() []api.Shard {
	wide := api.Shard{Live: true, High: 65535, Ready: api.Ring{Cells: make([]api.Message, 3), Head: 2}}
	wide.Leases.L = []api.Lease{{Msg: msg(7, 7), Deadline: 9}, {Msg: msg(8, 65535), Deadline: 8}}
	wide.Leases.Heap = []api.Due{{Deadline: 8, ID: 8}, {Deadline: 9, ID: 7}}
	return []api.Shard{
		full(), wide,
		{Ready: api.Ring{Cells: make([]api.Message, 3)}},
		{Live: true, Low: 5, High: 5, Ready: api.Ring{Cells: []api.Message{msg(1, 5), {}, {}}, Size: 1}},
		{Live: true, Low: 65535, High: 65535, Ready: api.Ring{Cells: make([]api.Message, 3)}},
	}
}

// Every valid shard can be stored in every slot: what the directory says does not matter, nor whether the slot was live.
func TestStoreSlot(t *testing.T) {
	for slot := range 4 {
		for _, task := range tasks {
			a := withOwner(busy(), slot, task)
			for _, s := range shards() {
				want := plain(a)
				want.Slots[slot].Shard = s
				x := arguments{cell: slot, task: task, shard: s}
				returns(t, "StoreSlot", a, x, result{a: want})
				returns(t, "LoadSlot", want, x, result{shard: s})
			}
		}
	}
}

// brokenShards are shards with the capacity 3, each one with another error of shard.Validate.
func brokenShards() map[api.Errno]api.Shard {
	tooMany, noHeap, noSpan, tooFull, moved, twice := full(), full(), full(), full(), full(), full()
	tooMany.Leases.L = slices.Repeat(tooMany.Leases.L, 13)
	noHeap.Leases.Heap = nil
	noSpan.High = 65536
	tooFull.Ready.Cells[1], tooFull.Ready.Size = msg(9, 9), 3
	moved.Low = 1
	twice.Ready.Cells[2].ID = 2
	return map[api.Errno]api.Shard{api.ErrTooLong: tooMany, api.ErrState: noHeap, api.ErrRange: noSpan, api.ErrFull: tooFull, api.ErrMoved: moved, api.ErrDuplicate: twice}
}

func TestStoreSlotOfBrokenShards(t *testing.T) {
	for e, s := range brokenShards() {
		x := usual()
		x.shard = s
		fails(t, "StoreSlot", busy(), x, e)
		x.task = 6
		fails(t, "StoreSlot", busy(), x, api.ErrOwner)
		x.task = 0
		fails(t, "StoreSlot", busy(), x, api.ErrRange)
	}
	x := usual()
	x.shard = api.Shard{}
	fails(t, "StoreSlot", busy(), x, api.ErrRange)
}

// noTasks are numbers that are not tasks.
var noTasks = slices.DeleteFunc(slices.Clone(extremes), func(n int) bool { return in(n, 1, 200) })

func noTask(a *api.Arena, x *arguments) {
	x.task = 0
}

// robbed gives all cells to the other tasks.
func robbed(a *api.Arena, x *arguments) {
	for cell := range len(a.Slots) + 1 {
		*a = withOwner(*a, cell, cell+6)
	}
}

func noSlot(a *api.Arena, x *arguments) {
	x.cell = 4
}

func TestStoreSlotErrors(t *testing.T) {
	failsInOrder(t, "StoreSlot", busy(), usual, []fault{
		{"slot", noSlot, api.ErrRange},
		{"task", noTask, api.ErrRange},
		{"owner", robbed, api.ErrOwner},
		{"shard", func(a *api.Arena, x *arguments) { x.shard.Live = false }, api.ErrState},
		{"capacity", func(a *api.Arena, x *arguments) {
			x.shard.Ready.Cells = slices.Insert(x.shard.Ready.Cells, 1, api.Message{})
			x.shard.Ready.Head++
		}, api.ErrRange},
	})
}

// Nothing can be stored with a number that is not a task, even if that is the Owner of a cell that is not locked.
func TestStoreWithoutTask(t *testing.T) {
	for _, task := range noTasks {
		x := usual()
		x.task = task
		for _, a := range []api.Arena{busy(), fresh(setup)} {
			fails(t, "StoreSlot", a, x, api.ErrRange)
			fails(t, "StoreStripe", a, x, api.ErrRange)
			fails(t, "StoreDead", a, x, api.ErrRange)
		}
	}
}

// What is stored has to belong to the task: another cell that it has locked does not help.
func TestStoreWithoutLock(t *testing.T) {
	for cell := range 5 {
		for _, task := range tasks {
			for _, owner := range append([]int{0}, tasks...) {
				if owner == task {
					continue
				}
				a := fresh(setup)
				for other := range 5 {
					a = withOwner(a, other, task)
				}
				a = withOwner(a, cell, owner)
				x := usual()
				x.cell, x.task = cell, task
				if cell == 4 {
					fails(t, "StoreDead", a, x, api.ErrOwner)
					continue
				}
				fails(t, "StoreSlot", a, x, api.ErrOwner)
				fails(t, "StoreStripe", a, x, api.ErrOwner)
				changes(t, "StoreDead", a, x, "dead")
			}
		}
	}
}

// Each shard keeps its capacity, whether it is live or free.
func TestStoreSlotCapacity(t *testing.T) {
	for had := 1; had <= 12; had++ {
		a := withOwner(withOwner(fresh(api.Setup{Slots: 2, Live: 1, Capacity: had, Dead: 1, Limit: 1, NextID: 1}), 0, 5), 1, 5)
		for has := 1; has <= 12; has++ {
			for slot := range 2 {
				for _, live := range []bool{false, true} {
					x := arguments{cell: slot, task: 5, shard: api.Shard{Live: live, Ready: api.Ring{Cells: make([]api.Message, has), Head: has - 1}}}
					if had != has {
						fails(t, "StoreSlot", a, x, api.ErrRange)
						continue
					}
					want := plain(a)
					want.Slots[slot].Shard = x.shard
					returns(t, "StoreSlot", a, x, result{a: want})
				}
			}
		}
	}
}

func TestStoreStripe(t *testing.T) {
	for slot := range 4 {
		for _, task := range tasks {
			a := withOwner(busy(), slot, task)
			for _, s := range []api.Stripe{{}, {Seq: 1, Epoch: 2, Ready: 3, Leased: 4}, {Seq: 1 << 40, Epoch: 1 << 40, Ready: 1 << 40, Leased: 1 << 40}} {
				want := plain(a)
				want.Stripes[slot] = s
				x := arguments{cell: slot, task: task, stripe: s}
				returns(t, "StoreStripe", a, x, result{a: want})
				returns(t, "LoadStripe", want, x, result{stripe: s})
			}
		}
	}
}

// All four numbers of a stripe have the same range; what they are together does not matter.
func TestStoreStripeRanges(t *testing.T) {
	for _, n := range extremes {
		for field := range 4 {
			x := usual()
			*[]*int{&x.stripe.Seq, &x.stripe.Epoch, &x.stripe.Ready, &x.stripe.Leased}[field] = n
			if !in(n, 0, 1<<40) {
				fails(t, "StoreStripe", busy(), x, api.ErrRange)
				continue
			}
			want := busy()
			want.Stripes[1] = x.stripe
			returns(t, "StoreStripe", busy(), x, result{a: want})
		}
	}
}

func TestStoreStripeErrors(t *testing.T) {
	failsInOrder(t, "StoreStripe", busy(), usual, []fault{
		{"slot", noSlot, api.ErrRange},
		{"task", noTask, api.ErrRange},
		{"owner", robbed, api.ErrOwner},
		{"seq", func(a *api.Arena, x *arguments) { x.stripe.Seq = -1 }, api.ErrRange},
		{"epoch", func(a *api.Arena, x *arguments) { x.stripe.Epoch = 1<<40 + 1 }, api.ErrRange},
		{"ready", func(a *api.Arena, x *arguments) { x.stripe.Ready = -1 }, api.ErrRange},
		{"leased", func(a *api.Arena, x *arguments) { x.stripe.Leased = 1<<40 + 1 }, api.ErrRange},
	})
}

func TestStoreDead(t *testing.T) {
	for _, task := range tasks {
		a := withOwner(busy(), 4, task)
		for _, l := range [][]api.Message{nil, {}, {msg(1, 1)}, {msg(12, 1), msg(11, 2)}, {msg(5, 1), msg(4, 1), msg(3, 1), msg(2, 1), msg(1, 1)}} {
			x := arguments{cell: -1, task: task, dead: api.Dead{Cap: 5, L: l}}
			want := plain(a)
			want.Dead.Dead = x.dead
			returns(t, "StoreDead", a, x, result{a: want})
			returns(t, "LoadDead", want, x, result{dead: x.dead})
		}
	}
}

func TestStoreDeadErrors(t *testing.T) {
	failsInOrder(t, "StoreDead", busy(), usual, []fault{
		{"task", noTask, api.ErrRange},
		{"owner", robbed, api.ErrOwner},
		{"duplicate", func(a *api.Arena, x *arguments) { x.dead.L[1] = x.dead.L[0] }, api.ErrDuplicate},
		{"capacity", func(a *api.Arena, x *arguments) { x.dead.Cap = 6 }, api.ErrRange},
	})
	for e, d := range map[api.Errno]api.Dead{
		api.ErrRange:     {Cap: 5, L: []api.Message{msg(1, 1), {}}},
		api.ErrTooLong:   {Cap: 5, L: []api.Message{msg(1, 1), msg(2, 1), msg(3, 1), msg(4, 1), msg(5, 1), msg(6, 1)}},
		api.ErrDuplicate: {Cap: 6, L: []api.Message{msg(1, 1), msg(2, 1), msg(1, 2)}},
	} {
		x := usual()
		x.dead = d
		fails(t, "StoreDead", busy(), x, e)
		x.task = 6
		fails(t, "StoreDead", busy(), x, api.ErrOwner)
		x.task = 201
		fails(t, "StoreDead", busy(), x, api.ErrRange)
	}
}

func TestStoreDeadCapacity(t *testing.T) {
	for had := 1; had <= 24; had++ {
		a := withOwner(fresh(api.Setup{Slots: 1, Live: 1, Capacity: 1, Dead: had, Limit: 1, NextID: 1}), 1, 5)
		for _, has := range append([]int{10, 11, 14, 15, 16, 17, 18, 19, 20, 21, 22, 23}, extremes...) {
			x := arguments{task: 5, dead: api.Dead{Cap: has, L: []api.Message{msg(1, 1)}}}
			if had != has {
				fails(t, "StoreDead", a, x, api.ErrRange)
				continue
			}
			want := plain(a)
			want.Dead.Dead = x.dead
			returns(t, "StoreDead", a, x, result{a: want})
		}
	}
}

// P12.4

// The directory has the version 3. The new one may have every version.
func TestCASDir(t *testing.T) {
	a := busy()
	for _, next := range []int{1, 2, 3, 4, 5, 1 << 40} {
		for _, version := range extremes {
			x := usual()
			x.version, x.dir.Version = version, next
			if version != 3 {
				returns(t, "CASDir", a, x, result{a: a})
				continue
			}
			want := busy()
			want.Dir = x.dir
			returns(t, "CASDir", a, x, result{a: want, ok: true})
			returns(t, "LoadDir", want, x, result{dir: x.dir})
		}
	}
}

// A directory with other spans replaces all of the old one; no lock is needed.
func TestCASDirReplacesAll(t *testing.T) {
	for _, d := range []api.Directory{
		{Version: 4, L: []api.Span{{Low: 0, High: 65535, Shard: 3}}, Forward: []int{1, 2, 3, -1}},
		{Version: 9, L: []api.Span{{Low: 0, High: 9, Shard: 2}, {Low: 10, High: 20, Shard: 0}, {Low: 21, High: 21, Shard: 3}, {Low: 22, High: 65535, Shard: 1}}, Forward: []int{-1, -1, -1, -1}},
		busy().Dir,
	} {
		for cell := range 5 {
			for _, owner := range []int{0, 1, 200} {
				a := withOwner(busy(), cell, owner)
				want := plain(a)
				want.Dir = d
				returns(t, "CASDir", a, arguments{version: 3, dir: d}, result{a: want, ok: true})
			}
		}
	}
}

// brokenDirs are directories of four slots, each one with another error of directory.Validate, or with a version that is none.
func brokenDirs() map[string]api.Directory {
	m := map[string]api.Directory{}
	for _, name := range []string{"version", "span", "shard", "twice", "forward"} {
		m[name] = usual().dir
	}
	d := m["version"]
	d.Version = 0
	m["version"] = d
	m["span"].L[1].Low++
	m["shard"].L[1].Shard = 4
	m["twice"].L[1].Shard = 0
	m["forward"].Forward[0] = 1
	return m
}

// An error of the new directory is returned for every version.
func TestCASDirOfBrokenDirectories(t *testing.T) {
	errors := map[string]api.Errno{"version": api.ErrRange, "span": api.ErrState, "shard": api.ErrMissing, "twice": api.ErrDuplicate, "forward": api.ErrState}
	for name, d := range brokenDirs() {
		for _, version := range []int{3, 4, 0} {
			fails(t, "CASDir", busy(), arguments{version: version, dir: d}, errors[name])
		}
	}
	fails(t, "CASDir", busy(), arguments{version: 3}, api.ErrRange)
}

func TestCASDirErrors(t *testing.T) {
	failsInOrder(t, "CASDir", busy(), usual, []fault{
		{"state", func(a *api.Arena, x *arguments) { x.dir.L[0].Low = 1 }, api.ErrState},
		{"slots", func(a *api.Arena, x *arguments) { x.dir.Forward = append(x.dir.Forward, -1) }, api.ErrRange},
	})
}

func TestCASDirSlots(t *testing.T) {
	for had := 1; had <= 6; had++ {
		a := fresh(api.Setup{Slots: had, Live: 1, Capacity: 1, Dead: 1, Limit: 1, NextID: 1})
		for has := 1; has <= 6; has++ {
			x := arguments{dir: fresh(api.Setup{Slots: has, Live: has}).Dir}
			for _, x.version = range []int{0, 1, 2} {
				want := plain(a)
				want.Dir = x.dir
				switch {
				case had != has:
					fails(t, "CASDir", a, x, api.ErrRange)
				case x.version == 1:
					returns(t, "CASDir", a, x, result{a: want, ok: true})
				default:
					returns(t, "CASDir", a, x, result{a: a})
				}
			}
		}
	}
}

// P12.5

func TestLoad(t *testing.T) {
	a := busy()
	for _, n := range extremes {
		x := arguments{word: n}
		switch n {
		case api.WordEpoch:
			returns(t, "Load", a, x, result{n: 3})
		case api.WordClock:
			returns(t, "Load", a, x, result{n: 10})
		case api.WordID:
			returns(t, "Load", a, x, result{n: 7})
		default:
			fails(t, "Load", a, x, api.ErrKind)
		}
	}
}

// words are the two words that can be swapped, with their ranges.
var words = []struct {
	word, low, high int
	place           func(a *api.Arena) *int
}{
	{api.WordEpoch, 0, 65536, func(a *api.Arena) *int { return &a.Epoch }},
	{api.WordID, 1, 1 << 30, func(a *api.Arena) *int { return &a.NextID }},
}

// Each word becomes every number of its range, greater or not, if it is the old one; no lock is needed.
func TestCAS(t *testing.T) {
	for _, w := range words {
		for _, is := range append([]int{w.low, w.low + 1, w.high - 1, w.high}, 17) {
			a := busy()
			*w.place(&a) = is
			for _, next := range append([]int{w.low, w.low + 1, w.high - 1, w.high, is}, extremes...) {
				for _, old := range append([]int{is - 1, is, is + 1, next, is + 1<<32}, extremes...) {
					x := arguments{word: w.word, old: old, next: next}
					want := plain(a)
					*w.place(&want) = next
					switch {
					case !in(next, w.low, w.high):
						fails(t, "CAS", a, x, api.ErrRange)
					case old == is:
						returns(t, "CAS", a, x, result{a: want, ok: true})
					default:
						returns(t, "CAS", a, x, result{a: a})
					}
				}
			}
		}
	}
}

// The other word, the clock and words that do not exist do not matter, even if they have the old number.
func TestCASLooksAtOneWord(t *testing.T) {
	a := busy()
	a.Epoch, a.Clock, a.NextID = 5, 6, 7
	for _, word := range extremes {
		for _, old := range []int{0, 5, 6, 7} {
			for _, next := range []int{-1, 0, 1, 65536, 65537, 1 << 30, 1<<30 + 1} {
				x := arguments{word: word, old: old, next: next}
				if word != api.WordEpoch && word != api.WordID {
					fails(t, "CAS", a, x, api.ErrKind)
					continue
				}
				returns(t, "CAS", a, x, modelCAS(a, x))
			}
		}
	}
}

func TestTick(t *testing.T) {
	for _, now := range []int{0, 1, 10, 1 << 29, 1<<30 - 1, 1 << 30} {
		a := busy()
		a.Clock = now
		for _, by := range append([]int{1<<30 - now - 1, 1<<30 - now, 1<<30 - now + 1}, extremes...) {
			x := arguments{by: by}
			want := plain(a)
			want.Clock = now + by
			switch {
			case by < 0 || by > 1<<40:
				fails(t, "Tick", a, x, api.ErrRange)
			case want.Clock > 1<<30:
				fails(t, "Tick", a, x, api.ErrExhausted)
			default:
				returns(t, "Tick", a, x, result{a: want})
			}
		}
	}
}

// P12.6

func TestOneCell(t *testing.T) {
	x := usual()
	changes(t, "Unlock", busy(), x, "lock 1")
	changes(t, "StoreSlot", busy(), x, "shard 1")
	changes(t, "StoreStripe", busy(), x, "stripe 1")
	changes(t, "StoreDead", busy(), x, "dead")
	changes(t, "CASDir", busy(), x, "directory")
	changes(t, "CAS", busy(), x, "epoch")
	changes(t, "Tick", busy(), x, "clock")
	x.cell = 2
	changes(t, "TryLock", busy(), x, "lock 2")
	x.cell = 4
	changes(t, "Unlock", busy(), x, "lock 4")
	x.word, x.old = api.WordID, 7
	changes(t, "CAS", busy(), x, "id")
}

// What is the same as before may be stored, too.
func TestNothingNew(t *testing.T) {
	a := busy()
	returns(t, "StoreSlot", a, arguments{cell: 1, task: 5, shard: a.Slots[1].Shard}, result{a: a})
	returns(t, "StoreStripe", a, arguments{cell: 1, task: 5, stripe: a.Stripes[1]}, result{a: a})
	returns(t, "StoreDead", a, arguments{task: 5, dead: a.Dead.Dead}, result{a: a})
	returns(t, "CASDir", a, arguments{version: 3, dir: a.Dir}, result{a: a, ok: true})
	returns(t, "CAS", a, arguments{word: api.WordID, old: 7, next: 7}, result{a: a, ok: true})
	returns(t, "Tick", a, arguments{by: 0}, result{a: a})
}
