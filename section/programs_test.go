package section_test

import (
	"slices"

	"shardqueue/api"
	"shardqueue/dead"
	"shardqueue/section"
	"shardqueue/shard"
)

// program is what a section of some cells decides.
type program func(s api.Section) api.Outcome

// limit is the one of the sections that carry out programs.
const limit = 2

// all returns the messages of a shard: the ready ones, then the leased ones.
func all(s api.Shard) []api.Message {
	var l []api.Message
	for i := range s.Ready.Size {
		l = append(l, s.Ready.Cells[(s.Ready.Head+i)%len(s.Ready.Cells)])
	}
	for _, x := range s.Leases.L {
		l = append(l, x.Msg)
	}
	return l
}

// moving returns the outcome of a section in which messages go from one of its cells to another one.
func moving(s api.Section, from, to int, carry []api.Message) api.Outcome {
	o := section.Unchanged(s)
	o.Order, o.Carry = []int{from, to}, carry
	return o
}

// put is a program for a slot.
func put(id int) program {
	return func(s api.Section) api.Outcome {
		o := section.Unchanged(s)
		x, e := shard.Put(o.Shards[0], api.Message{ID: id, Route: s.Shards[0].Low, Epoch: s.Snap.Epoch, Sent: s.Snap.Clock})
		if e == api.OK {
			o.Shards[0], o.Order = x, []int{0}
		}
		return o
	}
}

// take is a program for a slot: leases lapse, messages are leased.
func take(s api.Section) api.Outcome {
	o := section.Unchanged(s)
	x, ids, e := shard.Expire(s.Shards[0], s.Snap.Clock, s.Snap.Epoch, limit)
	if e != api.OK {
		return o
	}
	x, l, e := shard.Take(x, 2, s.Snap.Clock, 3, s.Snap.Epoch, limit)
	if e == api.OK && len(ids)+len(l) > 0 {
		o.Shards[0], o.Order = x, []int{0}
	}
	return o
}

// steal is a program for two slots: messages go from one of them to the other one.
func steal(from int) program {
	return func(s api.Section) api.Outcome {
		victim, thief := s.Shards[from], s.Shards[1-from]
		v, l, e := shard.Detach(victim, (victim.Ready.Size+1)/2)
		if e != api.OK || len(l) == 0 {
			return section.Unchanged(s)
		}
		w, e := shard.Absorb(thief, l)
		if e != api.OK {
			return section.Unchanged(s)
		}
		o := moving(s, from, 1-from, l)
		o.Shards[from], o.Shards[1-from] = v, w
		return o
	}
}

// split is a program for two slots: the one that is free gets half of the other one.
func split(from int) program {
	return func(s api.Section) api.Outcome {
		x := s.Shards[from]
		mid := (x.Low + x.High) / 2
		lower, upper, e := shard.Divide(x, mid)
		if e != api.OK || s.Shards[1-from].Live {
			return section.Unchanged(s)
		}
		o := moving(s, from, 1-from, all(upper))
		o.Shards[from], o.Shards[1-from] = lower, upper
		o.Edits = []api.Edit{{Kind: api.EditSplit, From: s.Lock.Cells[from], To: s.Lock.Cells[1-from], Mid: mid}}
		return o
	}
}

// merge is a program for two slots: one gets all of the other one, which is free then.
func merge(from int) program {
	return func(s api.Section) api.Outcome {
		x := s.Shards[from]
		both, e := shard.Unite(s.Shards[1-from], x)
		if e != api.OK {
			return section.Unchanged(s)
		}
		free, _ := shard.Free(len(x.Ready.Cells))
		o := moving(s, from, 1-from, all(x))
		o.Shards[from], o.Shards[1-from] = free, both
		o.Edits = []api.Edit{{Kind: api.EditMerge, From: s.Lock.Cells[from], To: s.Lock.Cells[1-from]}}
		return o
	}
}

// bury is a program for a slot and the dead-letter cell.
func bury(s api.Section) api.Outcome {
	x, l, e := shard.Bury(s.Shards[0], dead.Room(s.Dead), s.Snap.Epoch, limit)
	if e != api.OK || len(l) == 0 {
		return section.Unchanged(s)
	}
	o := moving(s, 0, 1, l)
	o.Shards[0] = x
	o.Dead, _ = dead.Put(s.Dead, l)
	return o
}

// redrive is a program for a slot and the dead-letter cell; the messages come back as they are.
func redrive(s api.Section) api.Outcome {
	d, l, _ := dead.Take(s.Dead, 2, s.Snap.Epoch)
	x, e := shard.Absorb(s.Shards[0], l)
	if e != api.OK || len(l) == 0 {
		return section.Unchanged(s)
	}
	o := moving(s, 1, 0, l)
	o.Shards[0], o.Dead = x, d
	return o
}

// clean is a program for any cells: it removes what is purged from all of them, the last one first.
func clean(s api.Section) api.Outcome {
	o := section.Unchanged(s)
	for i, x := range s.Shards {
		if x, _, e := shard.Clean(x, s.Snap.Epoch); e == api.OK {
			o.Shards[i] = x
		}
	}
	for i := range s.Lock.Cells {
		o.Order = append(o.Order, i)
	}
	slices.Reverse(o.Order)
	if d, _, e := dead.Clean(s.Dead, s.Snap.Epoch); e == api.OK {
		o.Dead = d
	}
	return o
}
