package batch_test

import (
	"math"
	"reflect"
	"slices"
	"strings"
	"testing"

	"shardqueue/api"
	"shardqueue/batch"
)

// room is the memory of a list, with the room behind it.
type room struct{ from, to uintptr }

// rooms returns the memory of all lists in a value.
func rooms(v reflect.Value) []room {
	var l []room
	switch v.Kind() {
	case reflect.Slice:
		if v.Cap() > 0 {
			l = append(l, room{v.Pointer(), v.Pointer() + uintptr(v.Cap())*v.Type().Elem().Size()})
		}
		for i := range v.Len() {
			l = append(l, rooms(v.Index(i))...)
		}
	case reflect.Struct:
		for i := range v.NumField() {
			l = append(l, rooms(v.Field(i))...)
		}
	}
	return l
}

// roomsOf returns the memory of all lists in some values.
func roomsOf(values ...any) []room {
	var l []room
	for _, v := range values {
		l = append(l, rooms(reflect.ValueOf(v))...)
	}
	return l
}

// separate reports whether no list of a result has memory of another one, or of an argument.
func separate(result, arguments []room) bool {
	for i, x := range result {
		for _, y := range append(slices.Clone(result[:i]), arguments...) {
			if x.from < y.to && y.from < x.to {
				return false
			}
		}
	}
	return true
}

// stretched returns a copy of a value in which no list is nil, and each list has room behind it that an append in place would write to.
func stretched(v reflect.Value) reflect.Value {
	x := reflect.New(v.Type()).Elem()
	x.Set(v)
	switch v.Kind() {
	case reflect.Slice:
		x.Set(reflect.MakeSlice(v.Type(), v.Len(), v.Len()+3))
		for i := range v.Len() {
			x.Index(i).Set(stretched(v.Index(i)))
		}
	case reflect.Struct:
		for i := range v.NumField() {
			x.Field(i).Set(stretched(v.Field(i)))
		}
	}
	return x
}

func roomy[T any](v T) T {
	return stretched(reflect.ValueOf(v)).Interface().(T)
}

// behind writes the lists of a value with what is in the room behind them.
func behind(v reflect.Value) string {
	var all string
	switch v.Kind() {
	case reflect.Slice:
		all = text(v.Slice(0, v.Cap()).Interface())
		for i := range v.Len() {
			all += behind(v.Index(i))
		}
	case reflect.Struct:
		for i := range v.NumField() {
			all += behind(v.Field(i))
		}
	}
	return all
}

// tasks returns tasks with and without lists and results, some of which do not come from this package.
func tasks() []api.Task {
	var l []api.Task
	for kind := 0; kind <= 15; kind++ {
		for entry := range 4 {
			x := api.Task{Number: 7, Inv: valid(kind), Invoked: 4, Setup: setup, Entry: entry}
			for n := range entry {
				x.Results = append(x.Results, resultOf(n))
			}
			l = append(l, x, dirty(x), api.Task{Inv: api.Invocation{Kind: kind}, Entry: entry})
		}
	}
	return l
}

// LANGUAGE.md 7: a result shares no memory with an argument, and no two of its lists share memory.
func TestNothingIsShared(t *testing.T) {
	token := []byte{1, 2, 3}
	for _, x := range tasks() {
		x.Inv.Tokens = append(x.Inv.Tokens, token, token[1:])
		for _, x := range []api.Task{x, roomy(x)} {
			r := api.Result{Tokens: [][]byte{token, token}, Bodies: x.Inv.Bodies}
			if next := batch.Next(x, r, 20); !separate(roomsOf(next), roomsOf(x, r)) {
				t.Errorf("Next of %+v shares memory", x)
			}
			if start, _ := batch.Start(7, x.Inv, setup, 4); !separate(roomsOf(start), roomsOf(x.Inv)) {
				t.Errorf("Start of %+v shares memory", x.Inv)
			}
		}
	}
}

// R2: no function writes to the lists of its arguments, or to the room behind them.
func TestArgumentsStay(t *testing.T) {
	for _, x := range tasks() {
		x, r := roomy(x), roomy(resultOf(3))
		write := func() string {
			return text(x, r) + behind(reflect.ValueOf(x)) + behind(reflect.ValueOf(r))
		}
		before := write()
		batch.Validate(x.Inv, x.Setup)
		batch.Entries(x.Inv)
		batch.Start(7, x.Inv, setup, 4)
		batch.Next(x, r, 20)
		if write() != before {
			t.Errorf("the arguments have changed: %s, before %s", write(), before)
		}
	}
}

// R2: what was returned once stays as it is: two tasks can go on from the same one with different results.
func TestResultsStay(t *testing.T) {
	i, _ := sized(api.OpChange, 6)
	first, _ := batch.Start(7, i, setup, 4)
	all, before := []api.Task{first}, []string{text(first)}
	for n := 0; n < 62; n++ {
		for r := range 2 {
			x := batch.Next(all[n], resultOf(2*n+r), n)
			all, before = append(all, x), append(before, text(x))
		}
	}
	for n := range all {
		if text(all[n]) != before[n] {
			t.Errorf("the task %d is %+v, before %s", n, all[n], before[n])
		}
	}
	if !all[124].Done || len(all[124].Results) != 6 {
		t.Errorf("the last task: %+v", all[124])
	}
}

// R2 and R3: a result depends neither on what was done before, nor on whether an empty list is nil, nor on the room behind a list.
func TestEqualArguments(t *testing.T) {
	for _, x := range tasks() {
		r := resultOf(3)
		r.Bodies = nil
		wanted, entries := batch.Validate(x.Inv, setup), batch.Entries(x.Inv)
		start, _ := batch.Start(7, x.Inv, setup, 4)
		next := batch.Next(x, r, 20)
		for range 3 {
			y := roomy(x)
			if e, n := batch.Validate(y.Inv, setup), batch.Entries(y.Inv); e != wanted || n != entries {
				t.Errorf("%+v: %d and %d entries, and before %d and %d entries", x.Inv, e, n, wanted, entries)
			}
			if got, e := batch.Start(7, y.Inv, setup, 4); e != wanted || text(got) != text(start) {
				t.Errorf("Start of %+v: %+v, %d, and before %+v, %d", x.Inv, got, e, start, wanted)
			}
			if got := batch.Next(y, roomy(r), 20); text(got) != text(next) {
				t.Errorf("Next of %+v: %+v, and before %+v", x, got, next)
			}
		}
	}
}

// R1: every function returns for all arguments, also with long lists and extreme numbers.
func TestAllArguments(t *testing.T) {
	huge := api.Task{
		Inv:     api.Invocation{Bodies: slices.Repeat([]string{strings.Repeat("b", 1000)}, 1000), Tokens: slices.Repeat([][]byte{make([]byte, 1000)}, 1000)},
		Results: slices.Repeat([]api.Result{resultOf(1)}, 1000),
		First:   make([]api.Stripe, 1000), Second: make([]api.Stripe, 1000),
		Sec: api.Section{Shards: make([]api.Shard, 1000), Carry: make([]api.Message, 1000)},
		Dir: api.Directory{L: make([]api.Span, 1000), Forward: make([]int, 1000)},
	}
	for kind := 0; kind <= 15; kind++ {
		x := huge
		x.Inv.Kind = kind
		for _, entry := range []int{998, 999, 1000} {
			x.Entry = entry
			next := batch.Next(x, resultOf(2), 20)
			if done := entry == 999 && slices.Contains([]int{1, 3, 4, 5}, kind); next.Done != done || next.Entry != entry+1 || len(next.Results) != 1001 {
				t.Errorf("Next of the entry %d of the kind %d: %t, the entry %d, %d results", entry, kind, next.Done, next.Entry, len(next.Results))
			}
		}
		if start, e := batch.Start(7, x.Inv, setup, 4); e != batch.Validate(x.Inv, setup) || e != api.OK && text(start) != text(api.Task{}) {
			t.Errorf("Start of the kind %d: %d", kind, e)
		}
	}
	for _, n := range extremes {
		for _, kind := range []int{n, 1, 5, 9, 13} {
			i := api.Invocation{Kind: kind, Home: n, Max: n, Visibility: n, From: n, To: n, Tokens: [][]byte{nil}}
			s := api.Setup{Slots: n, Live: n, Capacity: n, Dead: n, Limit: n, Clock: n, NextID: n, Epoch: n}
			batch.Entries(i)
			batch.Validate(i, s)
			batch.Next(api.Task{Number: n, Inv: i, Invoked: n, Ended: n, PC: n, Entry: n, Setup: s, Slot: n, ID: n, Loaded: n}, api.Result{Err: api.Errno(n), ID: n}, n)
			if x, e := batch.Start(n, i, s, n); e != api.OK && text(x) != text(api.Task{}) {
				t.Errorf("Start with %d returns %+v, %d", n, x, e)
			}
		}
	}
}

// Extreme entries have no next one that is the number of entries.
func TestNextOfExtremeEntries(t *testing.T) {
	for _, entry := range []int{math.MinInt, math.MinInt + 1, -1, math.MaxInt - 1, math.MaxInt} {
		for kind := 1; kind <= 14; kind++ {
			if x := batch.Next(api.Task{Inv: valid(kind), Entry: entry}, api.Result{}, 20); x.Done || x.Ended != 0 {
				t.Errorf("Next of the entry %d of the kind %d: %+v", entry, kind, x)
			}
		}
	}
}
