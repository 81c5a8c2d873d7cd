package arena_test

import (
	"fmt"
	"math"
	"math/rand/v2"
	"reflect"
	"slices"
	"strconv"
	"strings"
	"testing"

	"shardqueue/api"
	"shardqueue/arena"
	"shardqueue/dead"
	"shardqueue/directory"
	"shardqueue/shard"
)

// Random runs: every function, with arguments that are often possible, compared with the model.

// randomShard returns what a task might do with a shard, or a shard that cannot be stored.
func randomShard(random *rand.Rand, s api.Shard, id int) api.Shard {
	next, e := s, api.OK
	switch random.IntN(8) {
	case 0:
		next, _, e = shard.Take(s, 1+random.IntN(3), random.IntN(9), random.IntN(9), 0, 3)
	case 1:
		next, _, e = shard.Detach(s, random.IntN(2))
	case 2:
		next, _, e = shard.Clean(s, 1)
	case 3:
		next, e = shard.Free(1 + random.IntN(4))
	case 4:
		next, e = shard.New(1+random.IntN(4), 0, random.IntN(65536))
	case 5:
		next.Low--
	default:
		next, e = shard.Put(s, msg(id, (s.Low+s.High)/2))
	}
	if e != api.OK {
		return s
	}
	return next
}

func randomDead(random *rand.Rand, d api.Dead, id int) api.Dead {
	next, e := d, api.OK
	switch random.IntN(5) {
	case 0:
		next, _, e = dead.Take(d, 1+random.IntN(2), 0)
	case 1:
		next.Cap++
	case 2:
		next.L = slices.Repeat(list(d.L), 2)
	default:
		next, e = dead.Put(d, []api.Message{msg(id, 3)})
	}
	if e != api.OK {
		return d
	}
	return next
}

func randomDir(random *rand.Rand, d api.Directory) api.Directory {
	edit := api.Edit{Kind: 1 + random.IntN(2), From: random.IntN(4), To: random.IntN(4), Mid: random.IntN(65536)}
	next, e := directory.Apply(d, edit)
	switch {
	case random.IntN(9) == 0:
		next.Forward = append(list(d.Forward), -1)
	case e != api.OK:
		return d
	}
	return next
}

// randomArguments returns arguments for an arena; tasks have the numbers 1 to 3.
func randomArguments(random *rand.Rand, a api.Arena, id int) arguments {
	slot := random.IntN(4)
	x := arguments{
		setup: setup, cell: random.IntN(6) - 1, task: random.IntN(5), word: random.IntN(5),
		shard: randomShard(random, a.Slots[slot].Shard, id), dead: randomDead(random, a.Dead.Dead, id), dir: randomDir(random, a.Dir),
		stripe:  api.Stripe{Seq: random.IntN(9) - 1, Epoch: random.IntN(9), Ready: random.IntN(9), Leased: random.IntN(9)},
		version: a.Dir.Version - random.IntN(2), old: []int{a.Epoch, a.NextID}[random.IntN(2)], next: random.IntN(70000), by: random.IntN(5) - 1,
	}
	if random.IntN(2) == 0 {
		x.cell = slot
	}
	if l := owners(a); in(x.cell, 0, 4) && l[x.cell] != 0 && random.IntN(2) == 0 {
		x.task = l[x.cell]
	}
	return x
}

// touched returns how the name of the cell begins that a function may change.
func touched(name string) string {
	return map[string]string{
		"TryLock": "lock", "Unlock": "lock", "StoreSlot": "shard", "StoreStripe": "stripe", "StoreDead": "dead", "CASDir": "directory", "CAS": "epoch id", "Tick": "clock",
	}[name]
}

// holder returns the task that has locked the cell with a name, or 0 if it cannot be locked.
func holder(a api.Arena, name string) int {
	kind, number, _ := strings.Cut(name, " ")
	i, _ := strconv.Atoi(number)
	switch kind {
	case "shard", "stripe":
		return owners(a)[i]
	case "dead":
		return a.Dead.Owner
	}
	return 0
}

func TestRandomRuns(t *testing.T) {
	random := rand.New(rand.NewPCG(12, 1))
	done := map[string]int{}
	for run := range 40 {
		a := fresh(setup)
		for step := range 2000 {
			x := randomArguments(random, a, 1+run+step)
			f := functions[1+random.IntN(len(functions)-1)]
			before := plain(a)
			r := f.call(a, x)
			if want := f.model(before, x); !sameResult(r, want) {
				t.Fatalf("%s of %+v in %+v\nis   %+v\nwant %+v", f.name, x, before, r, want)
			}
			if !same(a, before) {
				t.Fatalf("%s has changed its argument", f.name)
			}
			if len(r.a.Slots) == 0 {
				continue
			}
			l := changed(before, r.a)
			if len(l) > 1 {
				t.Fatalf("%s changes %v", f.name, l)
			}
			for _, cell := range l {
				if !strings.Contains(touched(f.name), strings.Fields(cell)[0]) {
					t.Fatalf("%s changes %s", f.name, cell)
				}
				if owner := holder(before, cell); touched(f.name) != "lock" && owner != 0 && owner != x.task {
					t.Fatalf("%s by the task %d changes %s, which the task %d has locked", f.name, x.task, cell, owner)
				}
				done[f.name]++
			}
			a = r.a
		}
	}
	// Each function has to do something often enough to be tested.
	for _, name := range []string{"TryLock", "Unlock", "StoreSlot", "StoreStripe", "StoreDead", "CASDir", "CAS", "Tick"} {
		if done[name] < 100 {
			t.Errorf("%s has changed something %d times", name, done[name])
		}
	}
}

// Many tasks lock, change and unlock in any order: of several tasks that try to lock a cell exactly one succeeds, and while it has the cell nobody else changes it.
func TestMutualExclusion(t *testing.T) {
	random := rand.New(rand.NewPCG(12, 2))
	a := fresh(setup)
	has := map[int]int{} // the task that has a cell
	for step := range 20000 {
		cell, task := random.IntN(4), 1+random.IntN(8)
		x := arguments{cell: cell, task: task, stripe: api.Stripe{Seq: step}}
		switch random.IntN(3) {
		case 0:
			r := named("TryLock").call(a, x)
			if r.e != api.OK || r.ok != (has[cell] == 0) {
				t.Fatalf("TryLock(%d, %d) = %t, %d, and the cell belongs to %d", cell, task, r.ok, r.e, has[cell])
			}
			if r.ok {
				has[cell] = task
			}
			a = r.a
		case 1:
			r := named("StoreStripe").call(a, x)
			if (r.e == api.OK) != (has[cell] == task) {
				t.Fatalf("StoreStripe(%d, %d) = %d, and the cell belongs to %d", cell, task, r.e, has[cell])
			}
			if r.e == api.OK {
				a = r.a
			}
		default:
			r := named("Unlock").call(a, x)
			if (r.e == api.OK) != (has[cell] == task) {
				t.Fatalf("Unlock(%d, %d) = %d, and the cell belongs to %d", cell, task, r.e, has[cell])
			}
			if r.e == api.OK {
				has[cell], a = 0, r.a
			}
		}
	}
}

// Of two tasks that loaded the same id exactly one gets it.
func TestIDsAreTakenOnce(t *testing.T) {
	random := rand.New(rand.NewPCG(12, 3))
	a := fresh(setup)
	loaded := make([]int, 5)
	var got []int
	for range 5000 {
		task := random.IntN(5)
		if loaded[task] == 0 {
			loaded[task], _ = arena.Load(a, api.WordID)
			continue
		}
		next, ok, e := arena.CAS(a, api.WordID, loaded[task], loaded[task]+1)
		if e != api.OK {
			t.Fatal(e)
		}
		if ok {
			got = append(got, loaded[task])
		}
		a, loaded[task] = next, 0
	}
	for i, id := range got {
		if id != 7+i {
			t.Fatalf("the ids are %v", got)
		}
	}
	if len(got) < 100 || a.NextID != 7+len(got) {
		t.Errorf("%d ids, and the next one is %d", len(got), a.NextID)
	}
}

// Rules

// memory is a list of a result, or of an argument, with the room behind it.
type memory struct {
	name    string
	spoil   func()
	content func() any
}

// memoryOf returns a list; change has to make an element one that was there nowhere.
func memoryOf[E any](name string, l []E, change func(x *E)) memory {
	l = l[:cap(l)]
	return memory{
		name: name,
		spoil: func() {
			for i := range l {
				change(&l[i])
			}
		},
		content: func() any { return slices.Clone(l) },
	}
}

func spoilMessage(m *api.Message) {
	m.ID += 1000
}

func memoriesOfShard(name string, s api.Shard) []memory {
	return []memory{
		memoryOf(name+" cells", s.Ready.Cells, spoilMessage),
		memoryOf(name+" leases", s.Leases.L, func(l *api.Lease) { l.Deadline += 1000 }),
		memoryOf(name+" heap", s.Leases.Heap, func(d *api.Due) { d.Deadline += 1000 }),
	}
}

func memoriesOfDir(name string, d api.Directory) []memory {
	return []memory{
		memoryOf(name+" spans", d.L, func(s *api.Span) { s.Low += 1000 }),
		memoryOf(name+" forward", d.Forward, func(n *int) { *n += 1000 }),
	}
}

// memoriesOfSlots returns the list of slots, of which only the owners are looked at, and those of their shards.
func memoriesOfSlots(name string, l []api.Slot) []memory {
	slots := memoryOf(name+" slots", l, func(s *api.Slot) { s.Owner += 1000 })
	slots.content = func() any {
		var owners []int
		for _, s := range l[:cap(l)] {
			owners = append(owners, s.Owner)
		}
		return owners
	}
	all := []memory{slots}
	for i, s := range l {
		all = append(all, memoriesOfShard(fmt.Sprintf("%s shard %d", name, i), s.Shard)...)
	}
	return all
}

func memories(name string, a api.Arena) []memory {
	return slices.Concat(memoriesOfSlots(name, a.Slots), memoriesOfDir(name+" directory", a.Dir), []memory{
		memoryOf(name+" stripes", a.Stripes, func(s *api.Stripe) { s.Seq += 1000 }),
		memoryOf(name+" dead", a.Dead.Dead.L, spoilMessage),
	})
}

func memoriesOfResult(r result) []memory {
	return slices.Concat(memories("result", r.a), memoriesOfShard("result shard", r.shard), memoriesOfDir("result directory", r.dir), []memory{memoryOf("result dead", r.dead.L, spoilMessage)})
}

func memoriesOfArguments(a api.Arena, x arguments) []memory {
	return slices.Concat(memories("argument", a), memoriesOfShard("argument shard", x.shard), memoriesOfDir("argument directory", x.dir), []memory{memoryOf("argument dead", x.dead.L, spoilMessage)})
}

// roomy returns a copy of a list, with room behind it that an append in place would write to.
func roomy[E any](l []E) []E {
	var junk E
	return append(slices.Clone(l), junk, junk)[:len(l)]
}

func roomyShard(s api.Shard) api.Shard {
	s.Ready.Cells, s.Leases.L, s.Leases.Heap = roomy(s.Ready.Cells), roomy(s.Leases.L), roomy(s.Leases.Heap)
	return s
}

func roomyDir(d api.Directory) api.Directory {
	d.L, d.Forward = roomy(d.L), roomy(d.Forward)
	return d
}

func roomyArena(a api.Arena) api.Arena {
	a.Slots, a.Stripes, a.Dead.Dead.L, a.Dir = roomy(a.Slots), roomy(a.Stripes), roomy(a.Dead.Dead.L), roomyDir(a.Dir)
	for i := range a.Slots {
		a.Slots[i].Shard = roomyShard(a.Slots[i].Shard)
	}
	return a
}

func roomyArguments(x arguments) arguments {
	x.shard, x.dead.L, x.dir = roomyShard(x.shard), roomy(x.dead.L), roomyDir(x.dir)
	return x
}

func contents(l []memory) []any {
	var all []any
	for _, m := range l {
		all = append(all, m.content())
	}
	return all
}

// variants are arguments with which each function succeeds in each way in the busy arena, and some with which it fails.
func variants() []arguments {
	taken, other, broken := usual(), usual(), usual()
	taken.cell = 0
	other.version, other.old, other.cell = 9, 9, 4
	broken.cell, broken.shard.Live, broken.dead.Cap, broken.dir.Version, broken.word, broken.by = -1, false, 0, 0, 0, -1
	return []arguments{usual(), taken, other, broken}
}

// R2: no function changes its arguments.
func TestArgumentsStay(t *testing.T) {
	for _, f := range functions {
		for i := range variants() {
			a, x := roomyArena(busy()), roomyArguments(variants()[i])
			before := contents(memoriesOfArguments(a, x))
			f.call(a, x)
			if !reflect.DeepEqual(contents(memoriesOfArguments(a, x)), before) {
				t.Errorf("%s with the arguments %d changes them", f.name, i)
			}
		}
	}
}

// LANGUAGE.md 7: a result shares no memory with an argument, and no two of its lists share memory.
func TestNothingIsShared(t *testing.T) {
	for _, f := range functions {
		for i := range variants() {
			a, x := roomyArena(busy()), roomyArguments(variants()[i])
			result := memoriesOfResult(f.call(a, x))
			for j, list := range result {
				others := slices.Concat(result[:j], result[j+1:], memoriesOfArguments(a, x))
				before := contents(others)
				list.spoil()
				for k, content := range contents(others) {
					if !reflect.DeepEqual(content, before[k]) {
						t.Errorf("%s with the arguments %d: %s and %s share memory", f.name, i, list.name, others[k].name)
					}
				}
			}
		}
	}
}

// R2: what was returned once stays as it is, whatever is done with it.
func TestResultsStay(t *testing.T) {
	var all, copies []api.Arena
	a := busy()
	for range 3 {
		for _, f := range functions {
			for _, x := range variants() {
				if r := f.call(a, x); len(r.a.Slots) > 0 {
					all, copies = append(all, r.a), append(copies, plain(r.a))
					a = r.a
				}
			}
		}
	}
	for i := range all {
		if !same(all[i], copies[i]) {
			t.Errorf("the arena %d was changed: %+v, before %+v", i, all[i], copies[i])
		}
	}
}

// R2 and R3: a result depends neither on what was done before, nor on whether an empty list is nil, nor on the room behind a list.
func TestEqualArguments(t *testing.T) {
	for _, f := range functions {
		for i := range variants() {
			want := plainResult(f.call(plain(busy()), variants()[i]))
			for range 3 {
				x := roomyArguments(variants()[i])
				if r := f.call(roomyArena(busy()), x); !sameResult(r, want) {
					t.Errorf("%s of %+v: %+v, and before %+v", f.name, x, r, want)
				}
			}
		}
	}
	x := usual()
	x.shard = api.Shard{Ready: x.shard.Ready}
	x.shard.Ready.Cells, x.shard.Ready.Head, x.shard.Ready.Size = make([]api.Message, 3), 0, 0
	want := named("StoreSlot").call(busy(), x)
	x.shard.Leases = api.Table{L: []api.Lease{}, Heap: []api.Due{}}
	if r := named("StoreSlot").call(busy(), x); r.e != api.OK || !sameResult(r, want) {
		t.Errorf("StoreSlot of %+v: %+v, want %+v", x.shard, r, want)
	}
}

// strangers are arenas that do not come from the package, with broken cells or with lists whose lengths do not fit.
func strangers() []api.Arena {
	many := api.Arena{Slots: make([]api.Slot, 1000), Stripes: make([]api.Stripe, 1000)}
	many.Dir = api.Directory{L: make([]api.Span, 1000), Forward: make([]int, 1000)}
	many.Dead.Dead.L = make([]api.Message, 1000)
	many.Slots[5].Shard.Ready = api.Ring{Cells: make([]api.Message, 1000), Head: -1, Size: 5000}
	many.Slots[999] = api.Slot{Owner: 5, Shard: api.Shard{Live: true, Leases: api.Table{L: make([]api.Lease, 1000), Heap: make([]api.Due, 1000)}}}
	l := []api.Arena{{}, many, {Slots: many.Slots}, {Stripes: many.Stripes}, {Dir: many.Dir}, {Dead: api.DeadCell{Owner: 5}}}
	for _, n := range []int{math.MinInt, -1, 5, 1 << 40, math.MaxInt} {
		a := busy()
		a.Epoch, a.Clock, a.NextID, a.Dir.Version = n, n, n, n
		for cell := range 5 {
			a = withOwner(a, cell, n)
		}
		l = append(l, a)
		a.Slots = a.Slots[:2]
		l = append(l, a)
		a.Slots, a.Stripes = busy().Slots, a.Stripes[:1]
		l = append(l, a)
	}
	return l
}

// R1 and R4: every function returns for all arguments, and with an error nothing else.
func TestAllArguments(t *testing.T) {
	big := usual()
	big.shard = api.Shard{Live: true, Ready: api.Ring{Cells: make([]api.Message, 1000), Head: -3, Size: 2000}, Leases: api.Table{L: make([]api.Lease, 1000)}}
	big.dead.L = make([]api.Message, 1000)
	big.dir = api.Directory{Version: 3, L: make([]api.Span, 1000), Forward: make([]int, 1000)}
	for _, a := range append(strangers(), busy()) {
		for _, x := range []arguments{usual(), {}, big} {
			for i, n := range append([]int{999, 1000, 1001}, extremes...) {
				x.cell, x.task, x.word, x.old, x.next, x.by, x.version = n, []int{5, n}[i%2], n, n, n, n, n
				x.setup = api.Setup{Slots: n, Live: n, Capacity: n, Dead: n, Limit: n, Clock: n, NextID: n, Epoch: n}
				x.stripe = api.Stripe{Seq: n, Epoch: n, Ready: n, Leased: n}
				for _, f := range functions {
					if r := f.call(a, x); r.e != api.OK && !sameResult(r, result{e: r.e}) {
						t.Errorf("%s of %+v returns %+v", f.name, x, r)
					}
				}
			}
		}
	}
}

// Both numbers of a lock, and both of a swap, at their extremes.
func TestPairsOfNumbers(t *testing.T) {
	for _, a := range append(strangers()[2:], busy()) {
		for _, m := range []int{math.MinInt, -1, 0, 1, 2, 3, 4, 5, 200, 201, 1 << 40, math.MaxInt} {
			for _, n := range []int{math.MinInt, -1, 0, 1, 5, 200, 201, 65536, 1 << 30, 1 << 40, math.MaxInt} {
				x := usual()
				x.cell, x.task, x.word, x.old, x.next = m, n, m, m, n
				for _, name := range []string{"TryLock", "Unlock", "StoreSlot", "StoreStripe", "LoadSlot", "LoadStripe", "CAS"} {
					if r := named(name).call(a, x); r.e != api.OK && !sameResult(r, result{e: r.e}) {
						t.Errorf("%s of %+v returns %+v", name, x, r)
					}
				}
			}
		}
	}
}
