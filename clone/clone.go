// Package clone copies values that contain lists. A copy shares no memory with what was copied, so that a layer may change it, or return it beside its argument.
package clone

import (
	"bytes"
	"slices"

	"shardqueue/api"
)

// Arena copies an arena with all of its cells.
func Arena(a api.Arena) api.Arena {
	a.Slots = slices.Clone(a.Slots)
	for i := range a.Slots {
		a.Slots[i].Shard = Shard(a.Slots[i].Shard)
	}
	a.Stripes = slices.Clone(a.Stripes)
	a.Dead.Dead = Dead(a.Dead.Dead)
	a.Dir = Directory(a.Dir)
	return a
}

// Shard copies a shard with its deque and its lease table.
func Shard(s api.Shard) api.Shard {
	s.Ready.Cells = slices.Clone(s.Ready.Cells)
	s.Leases = api.Table{L: slices.Clone(s.Leases.L), Heap: slices.Clone(s.Leases.Heap)}
	return s
}

// Dead copies a dead-letter store.
func Dead(d api.Dead) api.Dead {
	d.L = slices.Clone(d.L)
	return d
}

// Directory copies a directory.
func Directory(d api.Directory) api.Directory {
	d.L, d.Forward = slices.Clone(d.L), slices.Clone(d.Forward)
	return d
}

// Outcome copies an outcome of a section.
func Outcome(o api.Outcome) api.Outcome {
	o.Shards = each(o.Shards, Shard)
	o.Dead = Dead(o.Dead)
	o.Order = slices.Clone(o.Order)
	o.Carry = slices.Clone(o.Carry)
	o.Edits = slices.Clone(o.Edits)
	return o
}

// Section copies a section with its locker, with all that it has loaded, and with its outcome.
func Section(s api.Section) api.Section {
	s.Lock.Cells = slices.Clone(s.Lock.Cells)
	s.Shards = each(s.Shards, Shard)
	s.Dead = Dead(s.Dead)
	s.Stripes = slices.Clone(s.Stripes)
	s.Dir = Directory(s.Dir)
	s.Out = Outcome(s.Out)
	s.Carry = slices.Clone(s.Carry)
	return s
}

// Task copies a task with its invocation, its results and its section.
func Task(t api.Task) api.Task {
	t.Inv.Bodies = slices.Clone(t.Inv.Bodies)
	t.Inv.Tokens = each(t.Inv.Tokens, bytes.Clone)
	t.Results = each(t.Results, result)
	t.Sec = Section(t.Sec)
	t.Dir = Directory(t.Dir)
	t.First, t.Second = slices.Clone(t.First), slices.Clone(t.Second)
	return t
}

func result(r api.Result) api.Result {
	r.Tokens = each(r.Tokens, bytes.Clone)
	r.Bodies = slices.Clone(r.Bodies)
	return r
}

// each copies a list whose elements contain lists.
func each[T any](l []T, copyOf func(T) T) []T {
	l = slices.Clone(l)
	for i := range l {
		l[i] = copyOf(l[i])
	}
	return l
}
