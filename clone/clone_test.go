package clone_test

import (
	"fmt"
	"reflect"
	"testing"

	"shardqueue/api"
	"shardqueue/clone"
)

// full returns an arena in which no list is empty and no number is zero.
func full() api.Arena {
	m := api.Message{ID: 1, Route: 2, Epoch: 3, Count: 4, Gen: 5, Sent: 6, Body: "b"}
	s := api.Shard{
		Live: true, Low: 1, High: 7,
		Ready:  api.Ring{Cells: []api.Message{m, m}, Head: 1, Size: 2},
		Leases: api.Table{L: []api.Lease{{Msg: m, Deadline: 8}}, Heap: []api.Due{{Deadline: 8, ID: 1}}},
	}
	return api.Arena{
		Slots:   []api.Slot{{Owner: 9, Shard: s}},
		Stripes: []api.Stripe{{Seq: 1, Epoch: 2, Ready: 3, Leased: 4}},
		Dead:    api.DeadCell{Owner: 3, Dead: api.Dead{Cap: 2, L: []api.Message{m}}},
		Dir:     api.Directory{Version: 4, L: []api.Span{{Low: 1, High: 2, Shard: 3}}, Forward: []int{5}},
		Epoch:   6, Clock: 7, NextID: 8,
	}
}

// spoils change an element of each list of an arena.
var spoils = map[string]func(a api.Arena){
	"slots":   func(a api.Arena) { a.Slots[0].Owner = 0 },
	"cells":   func(a api.Arena) { a.Slots[0].Shard.Ready.Cells[0].ID = 0 },
	"leases":  func(a api.Arena) { a.Slots[0].Shard.Leases.L[0].Deadline = 0 },
	"heap":    func(a api.Arena) { a.Slots[0].Shard.Leases.Heap[0].ID = 0 },
	"stripes": func(a api.Arena) { a.Stripes[0].Seq = 0 },
	"dead":    func(a api.Arena) { a.Dead.Dead.L[0].ID = 0 },
	"spans":   func(a api.Arena) { a.Dir.L[0].Low = 0 },
	"forward": func(a api.Arena) { a.Dir.Forward[0] = 0 },
}

// A copy is equal to what was copied, and neither changes with the other one.
func TestArena(t *testing.T) {
	for name, spoil := range spoils {
		a := full()
		x := clone.Arena(a)
		if !reflect.DeepEqual(a, full()) || !reflect.DeepEqual(x, full()) {
			t.Errorf("the copy of %+v is %+v, want %+v", a, x, full())
		}
		spoil(x)
		if !reflect.DeepEqual(a, full()) || reflect.DeepEqual(x, full()) {
			t.Errorf("the copy has the same %s: %+v", name, a)
		}
	}
}

// The parts of an arena are copied alone in the same way.
func TestParts(t *testing.T) {
	for name, spoil := range spoils {
		a := full()
		x := full()
		x.Slots[0].Shard, x.Dead.Dead, x.Dir = clone.Shard(a.Slots[0].Shard), clone.Dead(a.Dead.Dead), clone.Directory(a.Dir)
		if !reflect.DeepEqual(a, full()) || !reflect.DeepEqual(x, full()) {
			t.Errorf("the copies of %+v are %+v, want %+v", a, x, full())
		}
		spoil(x)
		if !reflect.DeepEqual(a, full()) {
			t.Errorf("a copy has the same %s: %+v", name, a)
		}
	}
}

// fullSection returns a section in which no list is empty and no number is zero.
func fullSection() api.Section {
	a := full()
	return api.Section{
		Phase: 1, At: 2,
		Lock:    api.Locker{Cells: []int{1, 2}, Phase: 3, Have: 4, Tries: 5, Wait: 6},
		Snap:    api.Snapshot{Phase: 1, Epoch: 2, Clock: 3, Stamp: 4},
		Shards:  []api.Shard{a.Slots[0].Shard},
		Dead:    a.Dead.Dead,
		Stripes: a.Stripes,
		Dir:     a.Dir,
		Out: api.Outcome{
			Shards: []api.Shard{full().Slots[0].Shard},
			Dead:   full().Dead.Dead,
			Order:  []int{1},
			Carry:  []api.Message{{ID: 1}},
			Edits:  []api.Edit{{Kind: 1, From: 2, To: 3, Mid: 4}},
		},
		Limit: 7,
		Carry: []api.Message{{ID: 2}},
	}
}

// outcomeSpoils change an element of each list of an outcome, sectionSpoils of each other list of a section.
var (
	outcomeSpoils = map[string]func(o api.Outcome){
		"decided shards":  func(o api.Outcome) { o.Shards[0].Low = 0 },
		"decided cells":   func(o api.Outcome) { o.Shards[0].Ready.Cells[0].ID = 0 },
		"decided leases":  func(o api.Outcome) { o.Shards[0].Leases.L[0].Deadline = 0 },
		"decided heap":    func(o api.Outcome) { o.Shards[0].Leases.Heap[0].ID = 0 },
		"decided letters": func(o api.Outcome) { o.Dead.L[0].ID = 0 },
		"order":           func(o api.Outcome) { o.Order[0] = 0 },
		"decided carry":   func(o api.Outcome) { o.Carry[0].ID = 0 },
		"edits":           func(o api.Outcome) { o.Edits[0].Kind = 0 },
	}
	sectionSpoils = map[string]func(s api.Section){
		"locker":  func(s api.Section) { s.Lock.Cells[0] = 0 },
		"shards":  func(s api.Section) { s.Shards[0].Low = 0 },
		"cells":   func(s api.Section) { s.Shards[0].Ready.Cells[0].ID = 0 },
		"leases":  func(s api.Section) { s.Shards[0].Leases.L[0].Deadline = 0 },
		"heap":    func(s api.Section) { s.Shards[0].Leases.Heap[0].ID = 0 },
		"letters": func(s api.Section) { s.Dead.L[0].ID = 0 },
		"stripes": func(s api.Section) { s.Stripes[0].Seq = 0 },
		"spans":   func(s api.Section) { s.Dir.L[0].Low = 0 },
		"forward": func(s api.Section) { s.Dir.Forward[0] = 0 },
		"carry":   func(s api.Section) { s.Carry[0].ID = 0 },
	}
)

// checkSection tests that a copy is equal to a section, and that the section does not change with the copy.
func checkSection(t *testing.T, name string, spoil func(s api.Section)) {
	t.Helper()
	s := fullSection()
	x := clone.Section(s)
	if !reflect.DeepEqual(s, fullSection()) || !reflect.DeepEqual(x, fullSection()) {
		t.Errorf("the copy of %+v is %+v, want %+v", s, x, fullSection())
	}
	spoil(x)
	if !reflect.DeepEqual(s, fullSection()) || reflect.DeepEqual(x, fullSection()) {
		t.Errorf("the copy has the same %s: %+v", name, s)
	}
}

func TestSection(t *testing.T) {
	for name, spoil := range sectionSpoils {
		checkSection(t, name, spoil)
	}
	for name, spoil := range outcomeSpoils {
		checkSection(t, name, func(s api.Section) { spoil(s.Out) })
	}
}

func TestOutcome(t *testing.T) {
	for name, spoil := range outcomeSpoils {
		o := fullSection().Out
		x := clone.Outcome(o)
		if !reflect.DeepEqual(x, fullSection().Out) {
			t.Errorf("the copy of %+v is %+v", o, x)
		}
		spoil(x)
		if !reflect.DeepEqual(o, fullSection().Out) || reflect.DeepEqual(x, fullSection().Out) {
			t.Errorf("the copy has the same %s: %+v", name, o)
		}
	}
}

// fullTask returns a task in which no list is empty and no number is zero.
func fullTask() api.Task {
	return api.Task{
		Number: 1,
		Inv: api.Invocation{
			Kind: 2, Home: 3, Max: 4, Visibility: 5, From: 6, To: 7,
			Bodies: []string{"b", "c"},
			Tokens: [][]byte{{8, 9}, {10}},
		},
		Invoked: 11, Done: true, Ended: 12, PC: 13, Entry: 14,
		Results: []api.Result{{Err: 1, ID: 2, Tokens: [][]byte{{3}, {4, 5}}, Bodies: []string{"d"}, Ready: 6, Leased: 7, Moved: 8}},
		Setup:   api.Setup{Slots: 1, Live: 2, Capacity: 3, Dead: 4, Limit: 5, Clock: 6, NextID: 7, Epoch: 8},
		Sec:     fullSection(),
		Dir:     full().Dir,
		Walk:    api.Walk{Next: 1, Covered: 2},
		Slot:    15, ID: 16,
		Handle: api.Handle{ID: 1, Gen: 2, Route: 3, Hint: 4},
		Loaded: 17,
		First:  []api.Stripe{{Seq: 1}},
		Second: []api.Stripe{{Seq: 2}},
	}
}

// taskSpoils change an element of each list of a task that is not in its section.
var taskSpoils = map[string]func(t api.Task){
	"bodies":          func(t api.Task) { t.Inv.Bodies[1] = "" },
	"tokens":          func(t api.Task) { t.Inv.Tokens[1] = nil },
	"bytes":           func(t api.Task) { t.Inv.Tokens[1][0] = 0 },
	"results":         func(t api.Task) { t.Results[0].ID = 0 },
	"received tokens": func(t api.Task) { t.Results[0].Tokens[1] = nil },
	"received bytes":  func(t api.Task) { t.Results[0].Tokens[1][1] = 0 },
	"received bodies": func(t api.Task) { t.Results[0].Bodies[0] = "" },
	"spans":           func(t api.Task) { t.Dir.L[0].Low = 0 },
	"forward":         func(t api.Task) { t.Dir.Forward[0] = 0 },
	"first stripes":   func(t api.Task) { t.First[0].Seq = 0 },
	"second stripes":  func(t api.Task) { t.Second[0].Seq = 0 },
}

// checkTask tests that a copy is equal to a task, and that the task does not change with the copy.
func checkTask(t *testing.T, name string, spoil func(x api.Task)) {
	t.Helper()
	whole := fullTask()
	x := clone.Task(whole)
	if !reflect.DeepEqual(whole, fullTask()) || !reflect.DeepEqual(x, fullTask()) {
		t.Errorf("the copy of %+v is %+v, want %+v", whole, x, fullTask())
	}
	spoil(x)
	if !reflect.DeepEqual(whole, fullTask()) || reflect.DeepEqual(x, fullTask()) {
		t.Errorf("the copy has the same %s: %+v", name, whole)
	}
}

func TestTask(t *testing.T) {
	for name, spoil := range taskSpoils {
		checkTask(t, name, spoil)
	}
	for name, spoil := range sectionSpoils {
		checkTask(t, name+" of the section", func(x api.Task) { spoil(x.Sec) })
	}
	for name, spoil := range outcomeSpoils {
		checkTask(t, name+" of the section", func(x api.Task) { spoil(x.Sec.Out) })
	}
}

func TestEmpty(t *testing.T) {
	want := fmt.Sprint(api.Arena{}, api.Shard{}, api.Dead{}, api.Directory{}, api.Outcome{}, api.Section{}, api.Task{})
	got := fmt.Sprint(
		clone.Arena(api.Arena{}), clone.Shard(api.Shard{}), clone.Dead(api.Dead{}), clone.Directory(api.Directory{}),
		clone.Outcome(api.Outcome{}), clone.Section(api.Section{}), clone.Task(api.Task{}))
	if got != want {
		t.Errorf("copies of nothing: %s", got)
	}
}
