package wire_test

import (
	"math"
	"slices"
	"testing"

	"stampways/api"
	"stampways/wire"
)

func rule(version, flow, next int) api.Rule {
	return api.Rule{Version: version, Flow: flow, Next: next}
}

func add(number, version int, l ...api.Rule) api.Order {
	return api.Order{Kind: api.OrderAdd, Number: number, Version: version, Rules: l}
}

func stamp(number, version int, l ...int) api.Order {
	return api.Order{Kind: api.OrderStamp, Number: number, Version: version, Flows: l}
}

func drop(number, version int) api.Order {
	return api.Order{Kind: api.OrderDrop, Number: number, Version: version}
}

func ofKind(kind, number, version int) api.Order {
	return api.Order{Kind: kind, Number: number, Version: version}
}

// same holds orders against each other; lists without entries are the same.
func same(a, b api.Order) bool {
	return a.Kind == b.Kind && a.Number == b.Number && a.Version == b.Version && slices.Equal(a.Rules, b.Rules) && slices.Equal(a.Flows, b.Flows)
}

// copyOf shares no memory with o.
func copyOf(o api.Order) api.Order {
	o.Rules, o.Flows = slices.Clone(o.Rules), slices.Clone(o.Flows)
	return o
}

// allFlows are as many flows as there may be.
func allFlows() []int { return []int{0, 1, 2, 3, 4, 5, 6, 7, 8, 9, 10, 11} }

// with is o with lists that its kind may not have.
func with(o api.Order, l []api.Rule, flows []int) api.Order {
	o.Rules, o.Flows = l, flows
	return o
}

func TestWrong(t *testing.T) {
	tooManyRules, tooManyFlows := make([]api.Rule, 17), make([]int, 13)
	for _, c := range []struct {
		what string
		o    api.Order
		want api.Errno
	}{
		{"a drop", drop(1, 1), api.OK},
		{"the greatest numbers", drop(100000, 1000), api.OK},
		{"no rules", add(7, 2), api.OK},
		{"a rule", add(7, 2, rule(2, 0, 0)), api.OK},
		{"a rule of the greatest numbers", add(7, 1000, rule(1000, 11, 7)), api.OK},
		{"as many rules as there may be", add(7, 2, slices.Repeat([]api.Rule{rule(2, 3, 4)}, 16)...), api.OK},
		{"falling rules", add(7, 2, rule(2, 5, 0), rule(2, 1, 0)), api.OK},
		{"rules that lead two ways", add(7, 2, rule(2, 5, 0), rule(2, 5, 1)), api.OK},
		{"no flows", stamp(7, 2), api.OK},
		{"flows", stamp(7, 2, 0, 3, 11), api.OK},
		{"as many flows as there may be", stamp(7, 2, allFlows()...), api.OK},

		{"nothing", api.Order{}, api.ErrRange},
		{"number 0", drop(0, 1), api.ErrRange},
		{"number below 0", drop(-1, 1), api.ErrRange},
		{"number too great", drop(100001, 1), api.ErrRange},
		{"number far below 0", drop(math.MinInt, 1), api.ErrRange},
		{"number far too great", drop(math.MaxInt, 1), api.ErrRange},
		{"number that is 1 in three bytes", drop(1<<24|1, 1), api.ErrRange},
		{"version 0", drop(1, 0), api.ErrRange},
		{"version below 0", drop(1, -1), api.ErrRange},
		{"version too great", drop(1, 1001), api.ErrRange},
		{"version far below 0", drop(1, math.MinInt), api.ErrRange},
		{"version far too great", drop(1, math.MaxInt), api.ErrRange},
		{"version that is 1 in two bytes", drop(1, 1<<16|1), api.ErrRange},

		{"kind 0", ofKind(0, 1, 1), api.ErrKind},
		{"kind 4", ofKind(4, 1, 1), api.ErrKind},
		{"kind below 0", ofKind(-1, 1, 1), api.ErrKind},
		{"kind that is 1 in a byte", ofKind(257, 1, 1), api.ErrKind},
		{"kind far below 0", ofKind(math.MinInt, 1, 1), api.ErrKind},
		{"kind far too great", ofKind(math.MaxInt, 1, 1), api.ErrKind},

		{"one rule too many", add(7, 2, slices.Repeat([]api.Rule{rule(2, 3, 4)}, 17)...), api.ErrMany},
		{"a rule's version is another one", add(7, 2, rule(1, 0, 0)), api.ErrRange},
		{"a rule's version is greater", add(7, 2, rule(2, 0, 0), rule(3, 0, 0)), api.ErrRange},
		{"a rule's flow below 0", add(7, 2, rule(2, -1, 0)), api.ErrRange},
		{"a rule's flow too great", add(7, 2, rule(2, 12, 0)), api.ErrRange},
		{"a rule's flow that is 0 in a byte", add(7, 2, rule(2, 256, 0)), api.ErrRange},
		{"a rule's next below 0", add(7, 2, rule(2, 0, -1)), api.ErrRange},
		{"a rule's next too great", add(7, 2, rule(2, 0, 8)), api.ErrRange},
		{"a rule's next that is 0 in a byte", add(7, 2, rule(2, 0, 256)), api.ErrRange},
		{"far", add(7, 2, rule(2, math.MaxInt, math.MinInt)), api.ErrRange},
		{"the last rule of as many as there may be", add(7, 2, append(slices.Repeat([]api.Rule{rule(2, 3, 4)}, 15), rule(2, 3, 8))...), api.ErrRange},

		{"one flow too many", stamp(7, 2, append(allFlows(), 12)...), api.ErrMany},
		{"a flow below 0", stamp(7, 2, -1), api.ErrRange},
		{"a flow too great", stamp(7, 2, 12), api.ErrRange},
		{"a flow that is 0 in a byte", stamp(7, 2, 256), api.ErrRange},
		{"far flows", stamp(7, 2, math.MinInt, math.MaxInt), api.ErrRange},
		{"a flow twice", stamp(7, 2, 3, 3), api.ErrRange},
		{"falling flows", stamp(7, 2, 0, 4, 3, 5), api.ErrRange},
		{"the last flow of as many as there may be", stamp(7, 2, append(allFlows()[:11], 10)...), api.ErrRange},

		{"number ahead of kind", ofKind(4, 0, 1), api.ErrRange},
		{"version ahead of kind", ofKind(4, 1, 0), api.ErrRange},
		{"number ahead of too many rules", add(0, 2, tooManyRules...), api.ErrRange},
		{"version ahead of too many flows", stamp(7, 1001, tooManyFlows...), api.ErrRange},
		{"too many rules ahead of wrong ones", add(7, 2, tooManyRules...), api.ErrMany},
		{"too many flows ahead of wrong ones", stamp(7, 2, tooManyFlows...), api.ErrMany},

		{"rules of a stamp mean nothing", with(stamp(7, 2), tooManyRules, []int{1}), api.OK},
		{"flows of rules mean nothing", with(add(7, 2), []api.Rule{rule(2, 1, 1)}, tooManyFlows), api.OK},
		{"both of a drop mean nothing", with(drop(7, 2), tooManyRules, tooManyFlows), api.OK},
		{"one wrong rule of a drop means nothing", with(drop(7, 2), []api.Rule{rule(5, 55, 555)}, []int{9, -9}), api.OK},
		{"both of a kind that there is not mean nothing", with(ofKind(9, 7, 2), tooManyRules, tooManyFlows), api.ErrKind},
	} {
		if got := wire.Wrong(c.o); got != c.want {
			t.Errorf("%s: %v, not %v", c.what, got, c.want)
		}
		b, got := wire.Bytes(c.o)
		if got != c.want || (len(b) > 0) != (c.want == api.OK) {
			t.Errorf("%s: as bytes %v %v, not %v", c.what, b, got, c.want)
		}
	}
}

// plainWrong says E1 over again, promise by promise.
func plainWrong(o api.Order) api.Errno {
	if o.Number < 1 || o.Number > 100000 || o.Version < 1 || o.Version > 1000 {
		return api.ErrRange
	}
	if o.Kind < 1 || o.Kind > 3 {
		return api.ErrKind
	}
	if o.Kind == 1 && len(o.Rules) > 16 || o.Kind == 2 && len(o.Flows) > 12 {
		return api.ErrMany
	}
	for i := range o.Rules {
		r := o.Rules[i]
		if o.Kind == 1 && (r.Version != o.Version || r.Flow < 0 || r.Flow > 11 || r.Next < 0 || r.Next > 7) {
			return api.ErrRange
		}
	}
	for i := range o.Flows {
		if o.Kind == 2 && (o.Flows[i] < 0 || o.Flows[i] > 11 || i > 0 && o.Flows[i] <= o.Flows[i-1]) {
			return api.ErrRange
		}
	}
	return api.OK
}

// drawn are numbers below n, one behind the other, always the same ones.
func drawn(seed uint64) func(n int) int {
	return func(n int) int {
		seed = seed*6364136223846793005 + 1442695040888963407
		return int(seed>>33) % n
	}
}

// drawnOrder is often nearly right, and mostly wrong in one thing at most.
func drawnOrder(draw func(n int) int) api.Order {
	o := api.Order{Kind: 1 + draw(3), Number: 1 + draw(100000), Version: 1 + draw(1000)}
	for range draw(18) {
		o.Rules = append(o.Rules, rule(o.Version, draw(12), draw(8)))
	}
	for f := range 12 {
		if draw(2) == 0 {
			o.Flows = append(o.Flows, f)
		}
	}
	odd := []int{math.MinInt, -1, 0, 1, 7, 8, 11, 12, 256, 1000, 1001, 100000, 100001, math.MaxInt}[draw(14)]
	switch draw(12) {
	case 0:
		o.Kind = odd
	case 1:
		o.Number = odd
	case 2:
		o.Version = odd
	case 3:
		o.Flows = append(o.Flows, odd)
	case 4:
		o.Flows = slices.Insert(o.Flows, 0, odd)
	case 5:
		o.Rules = append(o.Rules, rule(odd, 0, 0))
	case 6:
		o.Rules = append(o.Rules, rule(o.Version, odd, 0))
	case 7:
		o.Rules = append(o.Rules, rule(o.Version, 0, odd))
	}
	return o
}

func TestWrongOfDrawnOrders(t *testing.T) {
	draw := drawn(7)
	var told [api.ErrBusy + 1]int
	for range 50000 {
		o := drawnOrder(draw)
		want := plainWrong(o)
		if got := wire.Wrong(o); got != want {
			t.Fatalf("%v: %v, not %v", o, got, want)
		}
		told[want]++
	}
	for _, err := range []api.Errno{api.OK, api.ErrRange, api.ErrKind, api.ErrMany} {
		if told[err] == 0 {
			t.Errorf("%v was never told", err)
		}
	}
}

// TestOnlyReads: lists that are handed in, and the spare room behind them, are neither changed nor looked at, nor kept.
func TestOnlyReads(t *testing.T) {
	l, flows := []api.Rule{rule(2, 1, 3), rule(2, 0, 4), rule(9, 9, 9)}, []int{1, 5, 5, -1}
	keptRules, keptFlows := slices.Clone(l), slices.Clone(flows)
	for _, o := range []api.Order{with(add(7, 2), l[:2], flows), with(stamp(7, 2), l, flows[:2]), with(drop(7, 2), l, flows)} {
		if err := wire.Wrong(o); err != api.OK {
			t.Errorf("%v: %v", o, err)
		}
		if b, err := wire.Bytes(o); err != api.OK || !slices.Equal(b, plainBytes(o)) {
			t.Errorf("%v: %v %v", o, b, err)
		}
	}
	if !slices.Equal(l, keptRules) || !slices.Equal(flows, keptFlows) {
		t.Errorf("what was handed in is changed: %v %v", l, flows)
	}

	for _, o := range someOrders() {
		want := copyOf(o)
		room := append(plainBytes(o), 1, 2, 3)
		kept := slices.Clone(room)
		b := room[:len(room)-3]
		got, err := wire.Parse(b)
		if err != api.OK || !slices.Equal(room, kept) {
			t.Errorf("%v: %v, and %v is left", o, err, room)
		}
		clear(room)
		if !same(got, want) {
			t.Errorf("an answer changed with what was handed in: %v, not %v", got, want)
		}
	}
}

func TestNilAndEmptyAreTheSame(t *testing.T) {
	for _, o := range []api.Order{add(7, 2), stamp(7, 2), drop(7, 2)} {
		for _, l := range [][]api.Rule{nil, {}} {
			for _, flows := range [][]int{nil, {}} {
				o = with(o, l, flows)
				b, err := wire.Bytes(o)
				if err != api.OK || wire.Wrong(o) != api.OK || !slices.Equal(b, plainBytes(o)) {
					t.Errorf("%v: %v %v", o, b, err)
				}
			}
		}
	}
	for _, b := range [][]byte{nil, {}} {
		if o, err := wire.Parse(b); err != api.ErrForm || !same(o, api.Order{}) {
			t.Errorf("%v %v", o, err)
		}
	}
}

func TestAnswersAreNewMemory(t *testing.T) {
	for _, o := range someOrders() {
		want := plainBytes(o)
		first, _ := wire.Bytes(o)
		second, _ := wire.Bytes(o)
		clear(first[:cap(first)])
		if third, _ := wire.Bytes(o); !slices.Equal(second, want) || !slices.Equal(third, want) {
			t.Errorf("two answers share memory: %v, %v, not %v", second, third, want)
		}

		one, _ := wire.Parse(want)
		two, _ := wire.Parse(want)
		clear(one.Rules[:cap(one.Rules)])
		clear(one.Flows[:cap(one.Flows)])
		if three, _ := wire.Parse(want); !same(two, o) || !same(three, o) {
			t.Errorf("two answers share memory: %v, %v, not %v", two, three, o)
		}
	}
}
