// Package clone copies values that contain lists. A copy shares no memory with what was copied, so that a layer may change it, or return it beside its argument.
package clone

import (
	"slices"

	"shardqueue/api"
)

// Arena copies an arena with all of its cells.
func Arena(a api.Arena) api.Arena {
	a.Slots = slices.Clone(a.Slots)
	for i := range a.Slots {
		a.Slots[i].Shard = Shard(a.Slots[i].Shard)
	}
	a.Stripes = slices.Clone(a.Stripes)
	a.Dead.Dead = Dead(a.Dead.Dead)
	a.Dir = Directory(a.Dir)
	return a
}

// Shard copies a shard with its deque and its lease table.
func Shard(s api.Shard) api.Shard {
	s.Ready.Cells = slices.Clone(s.Ready.Cells)
	s.Leases = api.Table{L: slices.Clone(s.Leases.L), Heap: slices.Clone(s.Leases.Heap)}
	return s
}

// Dead copies a dead-letter store.
func Dead(d api.Dead) api.Dead {
	d.L = slices.Clone(d.L)
	return d
}

// Directory copies a directory.
func Directory(d api.Directory) api.Directory {
	d.L, d.Forward = slices.Clone(d.L), slices.Clone(d.Forward)
	return d
}
