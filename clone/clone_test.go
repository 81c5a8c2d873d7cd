package clone_test

import (
	"fmt"
	"reflect"
	"testing"

	"shardqueue/api"
	"shardqueue/clone"
)

// full returns an arena in which no list is empty and no number is zero.
func full() api.Arena {
	m := api.Message{ID: 1, Route: 2, Epoch: 3, Count: 4, Gen: 5, Sent: 6, Body: "b"}
	s := api.Shard{
		Live: true, Low: 1, High: 7,
		Ready:  api.Ring{Cells: []api.Message{m, m}, Head: 1, Size: 2},
		Leases: api.Table{L: []api.Lease{{Msg: m, Deadline: 8}}, Heap: []api.Due{{Deadline: 8, ID: 1}}},
	}
	return api.Arena{
		Slots:   []api.Slot{{Owner: 9, Shard: s}},
		Stripes: []api.Stripe{{Seq: 1, Epoch: 2, Ready: 3, Leased: 4}},
		Dead:    api.DeadCell{Owner: 3, Dead: api.Dead{Cap: 2, L: []api.Message{m}}},
		Dir:     api.Directory{Version: 4, L: []api.Span{{Low: 1, High: 2, Shard: 3}}, Forward: []int{5}},
		Epoch:   6, Clock: 7, NextID: 8,
	}
}

// spoils change an element of each list of an arena.
var spoils = map[string]func(a api.Arena){
	"slots":   func(a api.Arena) { a.Slots[0].Owner = 0 },
	"cells":   func(a api.Arena) { a.Slots[0].Shard.Ready.Cells[0].ID = 0 },
	"leases":  func(a api.Arena) { a.Slots[0].Shard.Leases.L[0].Deadline = 0 },
	"heap":    func(a api.Arena) { a.Slots[0].Shard.Leases.Heap[0].ID = 0 },
	"stripes": func(a api.Arena) { a.Stripes[0].Seq = 0 },
	"dead":    func(a api.Arena) { a.Dead.Dead.L[0].ID = 0 },
	"spans":   func(a api.Arena) { a.Dir.L[0].Low = 0 },
	"forward": func(a api.Arena) { a.Dir.Forward[0] = 0 },
}

// A copy is equal to what was copied, and neither changes with the other one.
func TestArena(t *testing.T) {
	for name, spoil := range spoils {
		a := full()
		x := clone.Arena(a)
		if !reflect.DeepEqual(a, full()) || !reflect.DeepEqual(x, full()) {
			t.Errorf("the copy of %+v is %+v, want %+v", a, x, full())
		}
		spoil(x)
		if !reflect.DeepEqual(a, full()) || reflect.DeepEqual(x, full()) {
			t.Errorf("the copy has the same %s: %+v", name, a)
		}
	}
}

// The parts of an arena are copied alone in the same way.
func TestParts(t *testing.T) {
	for name, spoil := range spoils {
		a := full()
		x := full()
		x.Slots[0].Shard, x.Dead.Dead, x.Dir = clone.Shard(a.Slots[0].Shard), clone.Dead(a.Dead.Dead), clone.Directory(a.Dir)
		if !reflect.DeepEqual(a, full()) || !reflect.DeepEqual(x, full()) {
			t.Errorf("the copies of %+v are %+v, want %+v", a, x, full())
		}
		spoil(x)
		if !reflect.DeepEqual(a, full()) {
			t.Errorf("a copy has the same %s: %+v", name, a)
		}
	}
}

func TestEmpty(t *testing.T) {
	want := fmt.Sprint(api.Arena{}, api.Shard{}, api.Dead{}, api.Directory{})
	if got := fmt.Sprint(clone.Arena(api.Arena{}), clone.Shard(api.Shard{}), clone.Dead(api.Dead{}), clone.Directory(api.Directory{})); got != want {
		t.Errorf("copies of nothing: %s", got)
	}
}
