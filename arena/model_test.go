package arena_test

import (
	"fmt"
	"math"
	"reflect"
	"slices"
	"strings"

	"shardqueue/api"
	"shardqueue/arena"
	"shardqueue/dead"
	"shardqueue/directory"
	"shardqueue/shard"
)

// extremes are numbers at which sums and comparisons are prone to go wrong.
var extremes = []int{
	math.MinInt, math.MinInt + 1, -1 << 40, -1 << 32, -1 << 30, -201, -200, -65536, -4, -3, -2, -1, 0, 1, 2, 3, 4, 5, 6, 7, 8, 9, 12, 13, 24, 25, 199, 200, 201, 255, 256,
	65535, 65536, 65537, 1<<30 - 1, 1 << 30, 1<<30 + 1, 1 << 31, 1<<32 - 1, 1 << 32, 1<<32 + 1, 1<<40 - 1, 1 << 40, 1<<40 + 1, 1 << 62, math.MaxInt - 1, math.MaxInt,
}

// msg returns a valid message in which no field is zero.
func msg(id, route int) api.Message {
	return api.Message{ID: id, Route: route, Epoch: 2, Count: 1, Gen: 100 + id, Sent: 5 + id, Body: strings.Repeat("b", id%15+1)}
}

// fresh returns what New has to return for a valid setup.
func fresh(s api.Setup) api.Arena {
	a := api.Arena{Epoch: s.Epoch, Clock: s.Clock, NextID: s.NextID}
	a.Dead.Dead.Cap = s.Dead
	a.Dir.Version = 1
	for i := range s.Slots {
		x := api.Shard{Ready: api.Ring{Cells: make([]api.Message, s.Capacity)}}
		if i < s.Live {
			x.Live, x.Low, x.High = true, i*65536/s.Live, (i+1)*65536/s.Live-1
			a.Dir.L = append(a.Dir.L, api.Span{Low: x.Low, High: x.High, Shard: i})
		}
		a.Slots = append(a.Slots, api.Slot{Shard: x})
		a.Stripes = append(a.Stripes, api.Stripe{Epoch: s.Epoch})
		a.Dir.Forward = append(a.Dir.Forward, -1)
	}
	return a
}

// setup has four slots, of which three are live.
var setup = api.Setup{Slots: 4, Live: 3, Capacity: 3, Dead: 5, Limit: 2, Clock: 10, NextID: 7, Epoch: 3}

// busy returns an arena in which no two cells are equal. The slots 1 and 3 and the dead-letter cell, 4, are locked by the tasks 5, 200 and 5.
func busy() api.Arena {
	a := fresh(setup)
	a.Slots[0].Shard = full()
	a.Slots[1].Owner = 5
	a.Slots[2].Shard.Ready = api.Ring{Cells: []api.Message{msg(6, 50000), msg(4, 60000), msg(5, 65535)}, Head: 1, Size: 3}
	a.Slots[3].Owner = 200
	a.Stripes = []api.Stripe{{Seq: 4, Epoch: 3, Ready: 2, Leased: 1}, {Seq: 7, Epoch: 2}, {Seq: 2, Epoch: 3, Ready: 3}, {Seq: 1 << 40, Ready: 5, Leased: 6}}
	a.Dead = api.DeadCell{Owner: 5, Dead: api.Dead{Cap: 5, L: []api.Message{msg(12, 1), msg(11, 2)}}}
	a.Dir.Version, a.Dir.Forward[3] = 3, 1
	return a
}

// full returns a shard with the capacity 3 that stores three messages.
func full() api.Shard {
	return api.Shard{
		Live: true, High: 21844,
		Ready:  api.Ring{Cells: []api.Message{msg(3, 3), {}, msg(1, 21844)}, Head: 2, Size: 2},
		Leases: api.Table{L: []api.Lease{{Msg: msg(2, 0), Deadline: 15}}, Heap: []api.Due{{Deadline: 15, ID: 2}}},
	}
}

// arguments are those of all functions, apart from the arena. The fields of a setup, a cell and so on are used by the functions that have such an argument.
type arguments struct {
	setup         api.Setup
	cell, task    int // the slot, too
	shard         api.Shard
	dead          api.Dead
	stripe        api.Stripe
	version       int
	dir           api.Directory
	word          int
	old, next, by int
}

// usual returns arguments with which every function succeeds in the busy arena, apart from TryLock; and the cell 0 can be locked.
func usual() arguments {
	d := fresh(setup).Dir
	d.Version, d.Forward[3] = 4, 2
	return arguments{
		setup: setup,
		cell:  1, task: 5,
		shard:   full(),
		dead:    api.Dead{Cap: 5, L: []api.Message{msg(12, 1), msg(13, 3), msg(14, 4)}},
		stripe:  api.Stripe{Seq: 8, Epoch: 4, Ready: 1, Leased: 2},
		version: 3, dir: d,
		word: api.WordEpoch, old: 3, next: 4, by: 1,
	}
}

// result has what a function returned; the fields that it does not return are zero.
type result struct {
	a      api.Arena
	ok     bool
	n      int
	shard  api.Shard
	dead   api.Dead
	stripe api.Stripe
	dir    api.Directory
	e      api.Errno
}

// function is a function of the package, and what it has to return.
type function struct {
	name  string
	call  func(a api.Arena, x arguments) (r result)
	model func(a api.Arena, x arguments) (r result)
}

var functions = []function{
	{"New", func(a api.Arena, x arguments) (r result) {
		r.a, r.e = arena.New(x.setup)
		return r
	}, modelNew},
	{"TryLock", func(a api.Arena, x arguments) (r result) {
		r.a, r.ok, r.e = arena.TryLock(a, x.cell, x.task)
		return r
	}, modelTryLock},
	{"Unlock", func(a api.Arena, x arguments) (r result) {
		r.a, r.e = arena.Unlock(a, x.cell, x.task)
		return r
	}, modelUnlock},
	{"LoadSlot", func(a api.Arena, x arguments) (r result) {
		r.shard, r.e = arena.LoadSlot(a, x.cell)
		return r
	}, modelLoadSlot},
	{"StoreSlot", func(a api.Arena, x arguments) (r result) {
		r.a, r.e = arena.StoreSlot(a, x.cell, x.task, x.shard)
		return r
	}, modelStoreSlot},
	{"LoadDead", func(a api.Arena, x arguments) (r result) {
		r.dead = arena.LoadDead(a)
		return r
	}, modelLoadDead},
	{"StoreDead", func(a api.Arena, x arguments) (r result) {
		r.a, r.e = arena.StoreDead(a, x.task, x.dead)
		return r
	}, modelStoreDead},
	{"LoadStripe", func(a api.Arena, x arguments) (r result) {
		r.stripe, r.e = arena.LoadStripe(a, x.cell)
		return r
	}, modelLoadStripe},
	{"StoreStripe", func(a api.Arena, x arguments) (r result) {
		r.a, r.e = arena.StoreStripe(a, x.cell, x.task, x.stripe)
		return r
	}, modelStoreStripe},
	{"LoadDir", func(a api.Arena, x arguments) (r result) {
		r.dir = arena.LoadDir(a)
		return r
	}, modelLoadDir},
	{"CASDir", func(a api.Arena, x arguments) (r result) {
		r.a, r.ok, r.e = arena.CASDir(a, x.version, x.dir)
		return r
	}, modelCASDir},
	{"Load", func(a api.Arena, x arguments) (r result) {
		r.n, r.e = arena.Load(a, x.word)
		return r
	}, modelLoad},
	{"CAS", func(a api.Arena, x arguments) (r result) {
		r.a, r.ok, r.e = arena.CAS(a, x.word, x.old, x.next)
		return r
	}, modelCAS},
	{"Tick", func(a api.Arena, x arguments) (r result) {
		r.a, r.e = arena.Tick(a, x.by)
		return r
	}, modelTick},
}

// named returns the function with a name.
func named(name string) function {
	return functions[slices.IndexFunc(functions, func(f function) bool { return f.name == name })]
}

// in reports whether a number is in a range.
func in(n, low, high int) bool {
	return n >= low && n <= high
}

func fail(e api.Errno) result {
	return result{e: e}
}

func modelNew(_ api.Arena, x arguments) result {
	s := x.setup
	for _, f := range [][3]int{
		{s.Slots, 1, 6}, {s.Live, 1, s.Slots}, {s.Capacity, 1, 12}, {s.Dead, 1, 24}, {s.Limit, 1, 8}, {s.Clock, 0, 1 << 30}, {s.NextID, 1, 1 << 30}, {s.Epoch, 0, 65536},
	} {
		if !in(f[0], f[1], f[2]) {
			return fail(api.ErrRange)
		}
	}
	return result{a: fresh(s)}
}

// owners returns the owners of the lockable cells.
func owners(a api.Arena) []int {
	var l []int
	for _, s := range a.Slots {
		l = append(l, s.Owner)
	}
	return append(l, a.Dead.Owner)
}

// withOwner returns the arena with another owner of a cell.
func withOwner(a api.Arena, cell, owner int) api.Arena {
	a = plain(a)
	if cell == len(a.Slots) {
		a.Dead.Owner = owner
	} else {
		a.Slots[cell].Owner = owner
	}
	return a
}

func modelTryLock(a api.Arena, x arguments) result {
	switch {
	case !in(x.cell, 0, len(a.Slots)) || !in(x.task, 1, 200):
		return fail(api.ErrRange)
	case owners(a)[x.cell] != 0:
		return result{a: a}
	}
	return result{a: withOwner(a, x.cell, x.task), ok: true}
}

func modelUnlock(a api.Arena, x arguments) result {
	switch {
	case !in(x.cell, 0, len(a.Slots)) || !in(x.task, 1, 200):
		return fail(api.ErrRange)
	case owners(a)[x.cell] != x.task:
		return fail(api.ErrOwner)
	}
	return result{a: withOwner(a, x.cell, 0)}
}

func modelLoadSlot(a api.Arena, x arguments) result {
	if !in(x.cell, 0, len(a.Slots)-1) {
		return fail(api.ErrRange)
	}
	return result{shard: a.Slots[x.cell].Shard}
}

func modelStoreSlot(a api.Arena, x arguments) result {
	if !in(x.cell, 0, len(a.Slots)-1) || !in(x.task, 1, 200) {
		return fail(api.ErrRange)
	}
	e := shard.Validate(x.shard)
	switch {
	case a.Slots[x.cell].Owner != x.task:
		return fail(api.ErrOwner)
	case e != api.OK:
		return fail(e)
	case len(x.shard.Ready.Cells) != len(a.Slots[x.cell].Shard.Ready.Cells):
		return fail(api.ErrRange)
	}
	a = plain(a)
	a.Slots[x.cell].Shard = x.shard
	return result{a: a}
}

func modelLoadDead(a api.Arena, _ arguments) result {
	return result{dead: a.Dead.Dead}
}

func modelStoreDead(a api.Arena, x arguments) result {
	e := dead.Validate(x.dead)
	switch {
	case !in(x.task, 1, 200):
		return fail(api.ErrRange)
	case a.Dead.Owner != x.task:
		return fail(api.ErrOwner)
	case e != api.OK:
		return fail(e)
	case x.dead.Cap != a.Dead.Dead.Cap:
		return fail(api.ErrRange)
	}
	a.Dead.Dead = x.dead
	return result{a: a}
}

func modelLoadStripe(a api.Arena, x arguments) result {
	if !in(x.cell, 0, len(a.Slots)-1) {
		return fail(api.ErrRange)
	}
	return result{stripe: a.Stripes[x.cell]}
}

func modelStoreStripe(a api.Arena, x arguments) result {
	if !in(x.cell, 0, len(a.Slots)-1) || !in(x.task, 1, 200) {
		return fail(api.ErrRange)
	}
	if a.Slots[x.cell].Owner != x.task {
		return fail(api.ErrOwner)
	}
	s := x.stripe
	if min(s.Seq, s.Epoch, s.Ready, s.Leased) < 0 || max(s.Seq, s.Epoch, s.Ready, s.Leased) > 1<<40 {
		return fail(api.ErrRange)
	}
	a = plain(a)
	a.Stripes[x.cell] = s
	return result{a: a}
}

func modelLoadDir(a api.Arena, _ arguments) result {
	return result{dir: a.Dir}
}

func modelCASDir(a api.Arena, x arguments) result {
	e := directory.Validate(x.dir)
	switch {
	case e != api.OK:
		return fail(e)
	case len(x.dir.Forward) != len(a.Slots):
		return fail(api.ErrRange)
	case a.Dir.Version != x.version:
		return result{a: a}
	}
	a.Dir = x.dir
	return result{a: a, ok: true}
}

func modelLoad(a api.Arena, x arguments) result {
	if !in(x.word, 1, 3) {
		return fail(api.ErrKind)
	}
	return result{n: []int{0, a.Epoch, a.Clock, a.NextID}[x.word]}
}

func modelCAS(a api.Arena, x arguments) result {
	switch {
	case x.word != 1 && x.word != 3:
		return fail(api.ErrKind)
	case x.word == 1 && !in(x.next, 0, 65536), x.word == 3 && !in(x.next, 1, 1<<30):
		return fail(api.ErrRange)
	case x.word == 1 && x.old == a.Epoch:
		a.Epoch = x.next
		return result{a: a, ok: true}
	case x.word == 3 && x.old == a.NextID:
		a.NextID = x.next
		return result{a: a, ok: true}
	}
	return result{a: a}
}

func modelTick(a api.Arena, x arguments) result {
	if !in(x.by, 0, 1<<40) {
		return fail(api.ErrRange)
	}
	a.Clock += x.by
	if a.Clock > 1<<30 {
		return fail(api.ErrExhausted)
	}
	return result{a: a}
}

// list returns a copy of a list in new memory, which is nil if the list is empty.
func list[E any](l []E) []E {
	return append([]E(nil), l...)
}

func plainShard(s api.Shard) api.Shard {
	s.Ready.Cells, s.Leases.L, s.Leases.Heap = list(s.Ready.Cells), list(s.Leases.L), list(s.Leases.Heap)
	return s
}

func plainDead(d api.Dead) api.Dead {
	d.L = list(d.L)
	return d
}

func plainDir(d api.Directory) api.Directory {
	d.L, d.Forward = list(d.L), list(d.Forward)
	return d
}

// plain returns a copy of an arena that shares no memory with it, and in which empty lists are nil.
func plain(a api.Arena) api.Arena {
	a.Slots, a.Stripes = list(a.Slots), list(a.Stripes)
	for i := range a.Slots {
		a.Slots[i].Shard = plainShard(a.Slots[i].Shard)
	}
	a.Dead.Dead, a.Dir = plainDead(a.Dead.Dead), plainDir(a.Dir)
	return a
}

func plainResult(r result) result {
	r.a, r.shard, r.dead, r.dir = plain(r.a), plainShard(r.shard), plainDead(r.dead), plainDir(r.dir)
	return r
}

func same(a, b api.Arena) bool {
	return reflect.DeepEqual(plain(a), plain(b))
}

func sameResult(a, b result) bool {
	return reflect.DeepEqual(plainResult(a), plainResult(b))
}

func sameShard(a, b api.Shard) bool {
	return reflect.DeepEqual(plainShard(a), plainShard(b))
}

func sameDead(a, b api.Dead) bool {
	return reflect.DeepEqual(plainDead(a), plainDead(b))
}

func sameDir(a, b api.Directory) bool {
	return reflect.DeepEqual(plainDir(a), plainDir(b))
}

// cells returns the contents of the cells of an arena, by their names.
func cells(a api.Arena) map[string]any {
	m := map[string]any{
		"dead": plainDead(a.Dead.Dead), "directory": plainDir(a.Dir), "epoch": a.Epoch, "clock": a.Clock, "id": a.NextID, "slots": len(a.Slots), "stripes": len(a.Stripes),
	}
	for i, owner := range owners(a) {
		m[fmt.Sprintf("lock %d", i)] = owner
	}
	for i, s := range a.Slots {
		m[fmt.Sprintf("shard %d", i)] = plainShard(s.Shard)
	}
	for i, s := range a.Stripes {
		m[fmt.Sprintf("stripe %d", i)] = s
	}
	return m
}

// changed returns the names of the cells that are not the same in two arenas, in ascending order.
func changed(a, b api.Arena) []string {
	x, y := cells(a), cells(b)
	var l []string
	for name := range x {
		if !reflect.DeepEqual(x[name], y[name]) {
			l = append(l, name)
		}
	}
	slices.Sort(l)
	return l
}
