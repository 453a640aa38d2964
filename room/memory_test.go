package room_test

import (
	"math"
	"reflect"
	"slices"
	"testing"

	"stampways/api"
)

// roomy is a copy of l with spare room behind it that is filled with something else.
func roomy[T any](l []T, other T) []T {
	return append(slices.Clone(l), other, other, other)[: len(l) : len(l)+3]
}

// roomyNet has links in its spare room, of which each would be wrong.
func roomyNet(n api.Topo) api.Topo {
	n.Links = roomy(n.Links, link(9, 9, 9))
	return n
}

// roomyDos have, behind all of their lists, what would be done otherwise.
func roomyDos(l []api.Do) []api.Do {
	l = roomy(l, ask(flow(3, 0)))
	for i := range l {
		l[i].Flows = roomy(l[i].Flows, flow(0, 99, 99))
		for k, f := range l[i].Flows {
			l[i].Flows[k].Via, l[i].Flows[k].Not = roomy(f.Via, 99), roomy(f.Not, 99)
		}
	}
	return l
}

// listed is a play with lists in every place of the world that has some, and at each of its stages.
func listed() []api.Do {
	wide := []api.Flow{{From: 0, To: 2, Via: []int{3}, Not: []int{1}}, {From: 2, To: 0, Via: []int{1}, Not: []int{3}}, {From: 0, To: 1}}
	return then(settled(wide...), one(begin(0), begin(1), move(0), move(1)), one(ask(slices.Concat(wide[1:], wide)...)), done(0, 1, 2, 3),
		one(begin(2), move(2), order(2), begin(1)), done(0, 1), one(back(2), order(3), back(3), drop(), order(0), order(1), back(0), move(1)),
		done(1, 2, 3), one(ask(flow(1, 3)), order(1)))
}

// lists goes through all lists of a value, and of the lists in them.
func lists(v reflect.Value, visit func(l reflect.Value)) {
	switch v.Kind() {
	case reflect.Struct:
		for i := range v.NumField() {
			lists(v.Field(i), visit)
		}
	case reflect.Slice:
		visit(v)
		for i := range v.Len() {
			lists(v.Index(i), visit)
		}
	}
}

// spoil fills all lists of a value, with their spare room.
func spoil(x any) {
	var all []reflect.Value
	lists(reflect.ValueOf(x), func(l reflect.Value) { all = append(all, l.Slice(0, l.Cap())) })
	slices.Reverse(all)
	for _, l := range all {
		for i := range l.Len() {
			if e := l.Index(i); e.CanInt() {
				e.SetInt(-77)
			} else {
				e.SetZero()
			}
		}
	}
}

// TestOnlyReads: what is handed in, and the spare room behind it, is neither changed nor looked at, nor kept.
func TestOnlyReads(t *testing.T) {
	whole := func(n api.Topo, l []api.Do) string {
		var out string
		for _, x := range []any{n, l} {
			lists(reflect.ValueOf(x), func(l reflect.Value) { out += told(l.Slice(0, l.Cap()).Interface()) + ";" })
		}
		return out
	}
	for many := range len(listed()) + 1 {
		want := play(ring, listed()[:many])
		n, l := roomyNet(ring), roomyDos(listed()[:many])
		kept := whole(n, l)
		got := play(n, l)
		hold(t, "spare room", got, want)
		if whole(n, l) != kept {
			t.Errorf("what was handed in is changed: %v %v", n, l)
		}
		spoil(n)
		spoil(l)
		hold(t, "what was handed in is another one then", got, want)
	}
}

// span is the memory of a list, with its spare room.
type span struct{ from, to uintptr }

func spansOf(x any) []span {
	var out []span
	lists(reflect.ValueOf(x), func(l reflect.Value) {
		if size := l.Type().Elem().Size() * uintptr(l.Cap()); size > 0 {
			out = append(out, span{l.Pointer(), l.Pointer() + size})
		}
	})
	return out
}

// TestAnswersAreNewMemory: no two lists of an answer share memory, nor does one with what was handed in, or with another answer.
func TestAnswersAreNewMemory(t *testing.T) {
	n := roomyNet(ring)
	for many := range len(listed()) + 1 {
		l := roomyDos(listed()[:many])
		first, other := play(n, l), play(n, l)
		spans := slices.Concat(spansOf(n), spansOf(l))
		for _, a := range []answer{first, other} {
			spans = slices.Concat(spans, spansOf(a.w), spansOf(a.came))
		}
		slices.SortFunc(spans, func(a, b span) int {
			if a.from < b.from {
				return -1
			}
			return 1
		})
		for i := 1; i < len(spans); i++ {
			if spans[i].from < spans[i-1].to {
				t.Fatalf("two lists share memory behind %v things", many)
			}
		}
		spoil(first.w)
		hold(t, "another answer", other, play(ring, listed()[:many]))
	}
}

// TestNilAndEmptyAreTheSame: wherever lists are handed in.
func TestNilAndEmptyAreTheSame(t *testing.T) {
	nils := []api.Do{{Kind: api.DoAsk}, {Kind: api.DoDrop}, {Kind: api.DoAsk, Flows: []api.Flow{{From: 0, To: 1}}}, {Kind: api.DoOrder}}
	empties := []api.Do{{Kind: api.DoAsk, Flows: []api.Flow{}}, {Kind: api.DoDrop, Flows: []api.Flow{}},
		{Kind: api.DoAsk, Flows: []api.Flow{{From: 0, To: 1, Via: []int{}, Not: []int{}}}}, {Kind: api.DoOrder, Flows: []api.Flow{}}}
	hold(t, "flows", play(two, empties), play(two, nils))
	hold(t, "links", play(api.Topo{Switches: 1, Links: []api.Link{}}, nils), play(api.Topo{Switches: 1}, nils))
	hold(t, "came", play(two, nils).came, []api.Errno{0, 0, 0, 0})
}

// TestWhateverIsGiven: nothing panics, every call ends, and beside a fault there is nothing.
func TestWhateverIsGiven(t *testing.T) {
	odd := []int{math.MinInt, -1, 0, 1, 2, 7, 8, 40, math.MaxInt}
	var all []api.Do
	for kind := -1; kind < 8; kind++ {
		for _, x := range odd {
			all = append(all, api.Do{Kind: kind, N: x, Flows: []api.Flow{{From: x, To: -x, Via: odd, Not: odd}, flow(0, 1)}})
			all = append(all, api.Do{Kind: kind, N: x, Flows: []api.Flow{flow(0, 1)}})
		}
	}
	nets := []api.Topo{{}, two, ring, net(1), net(8), net(-1), net(9), net(math.MaxInt), net(2, link(0, 1, 0)), net(2, link(-1, math.MaxInt, math.MinInt))}
	for _, n := range nets {
		for many := range len(all) + 1 {
			got := play(n, all[:many])
			if got.fault.Err != api.OK {
				hold(t, "a fault", got, answer{fault: got.fault})
			} else if len(got.came) != many {
				t.Fatalf("%v things came of %v", len(got.came), many)
			}
		}
	}
}
