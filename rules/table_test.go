package rules_test

import (
	"math"
	"slices"
	"testing"

	"stampways/api"
	"stampways/rules"
)

// flowsOf are rules of a version for so many flows, from one on, all to switch 1.
func flowsOf(version, from, many int) []api.Rule {
	var out []api.Rule
	for i := range many {
		out = append(out, rule(version, from+i, 1))
	}
	return out
}

// full is a table without room.
func full() []api.Rule { return append(flowsOf(1, 0, 12), flowsOf(2, 0, 4)...) }

func TestWrong(t *testing.T) {
	ok := api.Fault{}
	at := func(err api.Errno, at int) api.Fault { return api.Fault{Err: err, At: at} }
	for _, c := range []struct {
		what string
		l    []api.Rule
		want api.Fault
	}{
		{"none", nil, ok},
		{"one", []api.Rule{rule(1, 0, 0)}, ok},
		{"the greatest numbers", []api.Rule{rule(1000, 11, 7)}, ok},
		{"rising", []api.Rule{rule(1, 0, 7), rule(1, 1, 0), rule(2, 0, 0), rule(7, 3, 2), rule(7, 4, 2)}, ok},
		{"version ahead of flow", []api.Rule{rule(1, 11, 0), rule(2, 0, 0)}, ok},
		{"as many as there may be", full(), ok},

		{"one too many", append(full(), rule(3, 0, 0)), at(api.ErrFull, 0)},
		{"one too many, all wrong", make([]api.Rule, 17), at(api.ErrFull, 0)},
		{"far too many", make([]api.Rule, 1000), at(api.ErrFull, 0)},

		{"version 0", []api.Rule{rule(0, 0, 0)}, at(api.ErrRange, 0)},
		{"version below 0", []api.Rule{rule(-1, 0, 0)}, at(api.ErrRange, 0)},
		{"version too great", []api.Rule{rule(1, 0, 0), rule(1001, 0, 0)}, at(api.ErrRange, 1)},
		{"flow below 0", []api.Rule{rule(1, -1, 0)}, at(api.ErrRange, 0)},
		{"flow too great", []api.Rule{rule(1, 11, 0), rule(1, 12, 0)}, at(api.ErrRange, 1)},
		{"next below 0", []api.Rule{rule(1, 0, -1)}, at(api.ErrRange, 0)},
		{"next too great", []api.Rule{rule(1, 0, 0), rule(1, 1, 0), rule(1, 2, 8)}, at(api.ErrRange, 2)},
		{"far", []api.Rule{rule(math.MaxInt, math.MinInt, math.MaxInt)}, at(api.ErrRange, 0)},
		{"the last of as many as there may be", append(full()[:15], rule(2, 3, 8)), at(api.ErrRange, 15)},

		{"falling versions", []api.Rule{rule(2, 0, 0), rule(1, 0, 0)}, at(api.ErrForm, 1)},
		{"falling versions, rising flows", []api.Rule{rule(2, 0, 0), rule(1, 1, 0)}, at(api.ErrForm, 1)},
		{"falling flows", []api.Rule{rule(1, 1, 0), rule(1, 0, 0)}, at(api.ErrForm, 1)},
		{"a rule twice", []api.Rule{rule(1, 0, 0), rule(1, 1, 3), rule(1, 1, 3)}, at(api.ErrForm, 2)},
		{"two ways for one", []api.Rule{rule(1, 0, 0), rule(1, 0, 1)}, at(api.ErrForm, 1)},
		{"two ways for one, falling", []api.Rule{rule(1, 0, 1), rule(1, 0, 0)}, at(api.ErrForm, 1)},
		{"not beside each other", []api.Rule{rule(1, 0, 1), rule(2, 0, 1), rule(1, 0, 1)}, at(api.ErrForm, 2)},

		{"range ahead of form", []api.Rule{rule(2, 0, 0), rule(1, 0, 8)}, at(api.ErrRange, 1)},
		{"the first rule that is wrong: form", []api.Rule{rule(2, 0, 0), rule(1, 0, 0), rule(0, 0, 0)}, at(api.ErrForm, 1)},
		{"the first rule that is wrong: range", []api.Rule{rule(2, 0, 9), rule(1, 0, 0), rule(0, 0, 0)}, at(api.ErrRange, 0)},
	} {
		if got := rules.Wrong(c.l); got != c.want {
			t.Errorf("%s: %v, not %v", c.what, got, c.want)
		}
	}
}

// plainWrong says D2's first sentence over again, of a list that is not too long.
func plainWrong(l []api.Rule) api.Fault {
	for i, r := range l {
		if r.Version < 1 || r.Version > 1000 || r.Flow < 0 || r.Flow > 11 || r.Next < 0 || r.Next > 7 {
			return api.Fault{Err: api.ErrRange, At: i}
		}
		if i == 0 {
			continue
		}
		a := l[i-1]
		if a.Version > r.Version || a.Version == r.Version && a.Flow >= r.Flow {
			return api.Fault{Err: api.ErrForm, At: i}
		}
	}
	return api.Fault{}
}

// TestWrongOfPairs goes through all two rules whose numbers stand at the edges.
func TestWrongOfPairs(t *testing.T) {
	var all []api.Rule
	for _, v := range []int{math.MinInt, 0, 1, 2, 1000, 1001} {
		for _, f := range []int{-1, 0, 1, 11, 12, math.MaxInt} {
			for _, n := range []int{-1, 0, 7, 8} {
				all = append(all, rule(v, f, n))
			}
		}
	}
	for _, a := range all {
		for _, b := range all {
			l := []api.Rule{a, b}
			if got, want := rules.Wrong(l), plainWrong(l); got != want {
				t.Fatalf("%v: %v, not %v", l, got, want)
			}
		}
	}
}

func TestAdd(t *testing.T) {
	two := []api.Rule{rule(1, 0, 1), rule(2, 0, 5)}
	for _, c := range []struct {
		what    string
		l, more []api.Rule
		want    []api.Rule
	}{
		{"none to none", nil, nil, nil},
		{"none", two, nil, two},
		{"to none", nil, two, two},
		{"behind", two, []api.Rule{rule(2, 1, 0), rule(3, 0, 0)}, append(slices.Clone(two), rule(2, 1, 0), rule(3, 0, 0))},
		{"ahead", []api.Rule{rule(1, 1, 1)}, []api.Rule{rule(1, 0, 3)}, []api.Rule{rule(1, 0, 3), rule(1, 1, 1)}},
		{"between", two, []api.Rule{rule(1, 4, 0)}, []api.Rule{rule(1, 0, 1), rule(1, 4, 0), rule(2, 0, 5)}},
		{"as they come", nil, []api.Rule{rule(2, 1, 0), rule(1, 11, 7), rule(2, 0, 3), rule(1, 0, 2)}, []api.Rule{rule(1, 0, 2), rule(1, 11, 7), rule(2, 0, 3), rule(2, 1, 0)}},
		{"what is there", two, two, two},
		{"one that is there, and another one", two, []api.Rule{rule(2, 0, 5), rule(1, 1, 3)}, []api.Rule{rule(1, 0, 1), rule(1, 1, 3), rule(2, 0, 5)}},
		{"one twice", nil, []api.Rule{rule(1, 1, 3), rule(1, 1, 3)}, []api.Rule{rule(1, 1, 3)}},
		{"one often, not beside each other", two, []api.Rule{rule(2, 0, 5), rule(1, 0, 1), rule(2, 0, 5), rule(1, 0, 1)}, two},

		{"to a full table none", full(), nil, full()},
		{"to a full table what is there", full(), full(), full()},
		{"as many as there may be", flowsOf(1, 0, 10), append(flowsOf(2, 0, 4), flowsOf(1, 10, 2)...), full()},
		{"all at once", nil, full(), full()},
		{"more than Cap, with those that are left out", flowsOf(1, 0, 10), append(full(), full()...), full()},
		{"one very often", nil, slices.Repeat([]api.Rule{rule(1, 0, 1)}, 100), []api.Rule{rule(1, 0, 1)}},
	} {
		if got, err := rules.Add(c.l, c.more); err != api.OK || !slices.Equal(got, c.want) {
			t.Errorf("%s: %v %v, not %v", c.what, got, err, c.want)
		}
	}
}

func TestAddErrors(t *testing.T) {
	good, other := []api.Rule{rule(1, 0, 1)}, []api.Rule{rule(1, 0, 2)}
	many := append(full(), rule(3, 0, 0))
	for _, c := range []struct {
		what    string
		l, more []api.Rule
		want    api.Errno
	}{
		{"no table: too many", many, nil, api.ErrFull},
		{"no table: range", []api.Rule{rule(0, 0, 1)}, nil, api.ErrRange},
		{"no table: falling", []api.Rule{rule(2, 0, 1), rule(1, 0, 1)}, nil, api.ErrForm},
		{"no table: a rule twice", []api.Rule{rule(1, 0, 1), rule(1, 0, 1)}, nil, api.ErrForm},
		{"no table, ahead of what is wrong with both", []api.Rule{rule(2, 0, 1), rule(1, 0, 1)}, []api.Rule{rule(0, 0, 0)}, api.ErrForm},
		{"no table, ahead of too many", []api.Rule{rule(1, 0, 8)}, full(), api.ErrRange},

		{"one leads elsewhere", good, other, api.ErrForm},
		{"one leads elsewhere, and back", good, []api.Rule{rule(1, 0, 2), rule(1, 0, 1)}, api.ErrForm},
		{"two lead elsewhere", nil, append(slices.Clone(good), other...), api.ErrForm},
		{"version 0", good, []api.Rule{rule(0, 1, 1)}, api.ErrRange},
		{"version too great", good, []api.Rule{rule(1001, 1, 1)}, api.ErrRange},
		{"flow too great", good, []api.Rule{rule(1, 12, 1)}, api.ErrRange},
		{"flow below 0", good, []api.Rule{rule(1, -1, 1)}, api.ErrRange},
		{"next too great", good, []api.Rule{rule(1, 1, 8)}, api.ErrRange},
		{"next below 0", good, []api.Rule{rule(1, 1, -1)}, api.ErrRange},
		{"many of one that is wrong", good, make([]api.Rule, 40), api.ErrRange},

		{"one too many", full(), []api.Rule{rule(2, 4, 1)}, api.ErrFull},
		{"one too many, ahead of range", full(), []api.Rule{rule(0, 0, 0)}, api.ErrFull},
		{"one too many, ahead of form", full(), []api.Rule{rule(1, 0, 2)}, api.ErrFull},
		{"too many at once", nil, many, api.ErrFull},
		{"as many as there may be, two for one flow", full()[:15], []api.Rule{rule(1, 0, 2)}, api.ErrForm},

		{"of one flow the table's rule first, then as they came: form", good, []api.Rule{rule(1, 0, 2), rule(1, 0, 8)}, api.ErrForm},
		{"of one flow the table's rule first, then as they came: range", good, []api.Rule{rule(1, 0, 8), rule(1, 0, 2)}, api.ErrRange},
		{"only one just as the one ahead is left out: room for all three", full()[:14], []api.Rule{rule(1, 0, 2), rule(1, 0, 1)}, api.ErrForm},
		{"only one just as the one ahead is left out: no room for all three", full()[:15], []api.Rule{rule(1, 0, 2), rule(1, 0, 1)}, api.ErrFull},
		{"those beside each other are left out", full()[:15], []api.Rule{rule(1, 0, 1), rule(1, 0, 2), rule(1, 0, 2)}, api.ErrForm},

		{"form at a lesser rule than range", good, []api.Rule{rule(2, 0, 8), rule(1, 0, 2)}, api.ErrForm},
		{"range at a lesser rule than form", []api.Rule{rule(2, 0, 0)}, []api.Rule{rule(2, 0, 1), rule(1, 0, 8)}, api.ErrRange},
		{"range ahead of form at one", good, []api.Rule{rule(1, 0, 9)}, api.ErrRange},
	} {
		if got, err := rules.Add(c.l, c.more); err != c.want || len(got) > 0 {
			t.Errorf("%s: %v %v, not %v", c.what, got, err, c.want)
		}
	}
}

// plainAdd says D2's sentence of Add over again, for rules of few versions and flows: these are gone through rising.
func plainAdd(l, more []api.Rule) ([]api.Rule, api.Errno) {
	if f := plainWrong(l); f.Err != api.OK {
		return nil, f.Err
	}
	var all []api.Rule
	for v := range 4 {
		for f := range 4 {
			for _, r := range append(slices.Clone(l), more...) {
				if r.Version == v && r.Flow == f && (len(all) == 0 || all[len(all)-1] != r) {
					all = append(all, r)
				}
			}
		}
	}
	if f := plainWrong(all); f.Err != api.OK {
		return nil, f.Err
	}
	return all, api.OK
}

// lists are all lists of at most so many of some rules.
func lists(most int, some []api.Rule) [][]api.Rule {
	out := [][]api.Rule{nil}
	for at := 0; at < len(out); at++ {
		for i := 0; i < len(some) && len(out[at]) < most; i++ {
			out = append(out, append(slices.Clone(out[at]), some[i]))
		}
	}
	return out
}

// someRules are rules that agree with each other in much, some of them wrong: by which error is told their order is seen.
func someRules() []api.Rule {
	return []api.Rule{
		rule(1, 0, 0), rule(1, 0, 1), rule(1, 0, 8), rule(1, 1, 0), rule(1, 1, 1),
		rule(2, 0, 0), rule(2, 0, 1), rule(2, 1, 0), rule(2, 1, 8), rule(0, 3, 0),
	}
}

func TestAddOfAllSmallLists(t *testing.T) {
	for _, l := range lists(2, someRules()) {
		for _, more := range lists(3, someRules()) {
			want, wantErr := plainAdd(l, more)
			if got, err := rules.Add(l, more); err != wantErr || !slices.Equal(got, want) {
				t.Fatalf("%v and %v: %v %v, not %v %v", l, more, got, err, want, wantErr)
			}
		}
	}
}

func TestDrop(t *testing.T) {
	mixed := []api.Rule{rule(2, 0, 1), rule(1, 0, 8), rule(2, 0, 1), rule(-3, 5, 5), rule(1, 0, 8)}
	for _, c := range []struct {
		what    string
		l       []api.Rule
		version int
		want    []api.Rule
	}{
		{"of none", nil, 1, nil},
		{"the elder one", full(), 1, flowsOf(2, 0, 4)},
		{"the newer one", full(), 2, flowsOf(1, 0, 12)},
		{"one that there is not", full(), 3, full()},
		{"none that can be", full(), 0, full()},
		{"far", full(), math.MinInt, full()},
		{"the only one", flowsOf(7, 0, 12), 7, nil},
		{"of no table", mixed, 2, []api.Rule{rule(1, 0, 8), rule(-3, 5, 5), rule(1, 0, 8)}},
		{"of no table: twice the same stays", mixed, -3, []api.Rule{rule(2, 0, 1), rule(1, 0, 8), rule(2, 0, 1), rule(1, 0, 8)}},
		{"of too many", make([]api.Rule, 17), 1, make([]api.Rule, 17)},
		{"of too many, all", make([]api.Rule, 17), 0, nil},
	} {
		if got := rules.Drop(c.l, c.version); !slices.Equal(got, c.want) {
			t.Errorf("%s: %v, not %v", c.what, got, c.want)
		}
	}
}

func TestNext(t *testing.T) {
	table := []api.Rule{rule(1, 0, 1), rule(1, 2, 0), rule(2, 0, 5)}
	mixed := []api.Rule{rule(2, 0, 6), rule(1, 0, 8), rule(2, 0, 4), rule(0, -1, -7)}
	for _, c := range []struct {
		what          string
		l             []api.Rule
		version, flow int
		want          int
		ok            bool
	}{
		{"the first one", table, 1, 0, 1, true},
		{"to switch 0", table, 1, 2, 0, true},
		{"another version", table, 2, 0, 5, true},
		{"no such flow", table, 1, 1, 0, false},
		{"no such flow of that version", table, 2, 2, 0, false},
		{"no such version", table, 3, 0, 0, false},
		{"without a version", table, 0, 0, 0, false},
		{"the other way round", table, 0, 1, 0, false},
		{"far", table, math.MaxInt, math.MinInt, 0, false},
		{"of none", nil, 1, 0, 0, false},
		{"of none, noughts", nil, 0, 0, 0, false},
		{"of no table: the first such rule", mixed, 2, 0, 6, true},
		{"of no table: a next that is none", mixed, 1, 0, 8, true},
		{"of no table: whatever it is", mixed, 0, -1, -7, true},
		{"of too many", append(make([]api.Rule, 20), rule(4, 4, 4)), 4, 4, 4, true},
	} {
		if got, ok := rules.Next(c.l, c.version, c.flow); got != c.want || ok != c.ok {
			t.Errorf("%s: %v %v, not %v %v", c.what, got, ok, c.want, c.ok)
		}
	}
}

// TestTablesOnlyRead: neither the rules that are handed in nor the spare room behind them are changed, looked at, or kept.
func TestTablesOnlyRead(t *testing.T) {
	a := []api.Rule{rule(1, 0, 1), rule(2, 0, 1), rule(2, 0, 2), rule(0, 0, 0), rule(9, 9, 3)}
	b := []api.Rule{rule(3, 1, 1), rule(1, 1, 1), rule(1, 1, 1), rule(2, 0, 7), rule(9, 9, 9)}
	l, more := a[:2], b[:3]
	keptA, keptB := slices.Clone(a), slices.Clone(b)
	wantSum := []api.Rule{rule(1, 0, 1), rule(1, 1, 1), rule(2, 0, 1), rule(3, 1, 1)}

	if fault := rules.Wrong(l); fault != (api.Fault{}) {
		t.Errorf("wrong: %v", fault)
	}
	sum, err := rules.Add(l, more)
	if err != api.OK || !slices.Equal(sum, wantSum) {
		t.Errorf("add: %v %v", sum, err)
	}
	alone, _ := rules.Add(l, nil)
	toNone, _ := rules.Add(nil, l)
	rest, whole := rules.Drop(l, 1), rules.Drop(l, 7)
	if _, ok := rules.Next(l, 9, 9); ok {
		t.Error("next looks at the spare room")
	}
	if !slices.Equal(a, keptA) || !slices.Equal(b, keptB) {
		t.Errorf("what was handed in is changed: %v %v", a, b)
	}
	clear(a)
	clear(b)
	if !slices.Equal(sum, wantSum) || !slices.Equal(alone, keptA[:2]) || !slices.Equal(toNone, keptA[:2]) {
		t.Errorf("a sum changed with what was handed in: %v %v %v", sum, alone, toNone)
	}
	if !slices.Equal(rest, keptA[1:2]) || !slices.Equal(whole, keptA[:2]) {
		t.Errorf("what was left changed with what was handed in: %v %v", rest, whole)
	}
}

// TestTablesAreNewMemory spoils answers, with the spare room behind them, and looks at what else there is.
func TestTablesAreNewMemory(t *testing.T) {
	a := []api.Rule{rule(1, 0, 1), rule(2, 0, 1), rule(4, 4, 4)}
	b := []api.Rule{rule(1, 1, 1), rule(1, 1, 1), rule(4, 4, 4)}
	l, more := a[:2], b[:2]
	keptA, keptB := slices.Clone(a), slices.Clone(b)
	answers := func() [][]api.Rule {
		both, _ := rules.Add(l, more)
		alone, _ := rules.Add(l, nil)
		toNone, _ := rules.Add(nil, l)
		return [][]api.Rule{both, alone, toNone, rules.Drop(l, 2), rules.Drop(l, 7)}
	}
	first, second, want := answers(), answers(), answers()
	for i := range want {
		want[i] = slices.Clone(want[i])
	}
	for _, x := range first {
		clear(x[:cap(x)])
	}
	if !slices.Equal(a, keptA) || !slices.Equal(b, keptB) {
		t.Errorf("an answer shares memory with what was handed in: %v %v", a, b)
	}
	if !sameTables(second, want) || !sameTables(answers(), want) {
		t.Errorf("two answers share memory: %v", second)
	}
}

func TestTablesNilAndEmpty(t *testing.T) {
	one := []api.Rule{rule(1, 0, 1)}
	for _, none := range [][]api.Rule{nil, {}} {
		if fault := rules.Wrong(none); fault != (api.Fault{}) {
			t.Errorf("wrong: %v", fault)
		}
		for _, also := range [][]api.Rule{nil, {}} {
			if got, err := rules.Add(none, also); err != api.OK || len(got) > 0 {
				t.Errorf("add: %v %v", got, err)
			}
		}
		if got, err := rules.Add(one, none); err != api.OK || !slices.Equal(got, one) {
			t.Errorf("add none: %v %v", got, err)
		}
		if got, err := rules.Add(none, one); err != api.OK || !slices.Equal(got, one) {
			t.Errorf("add to none: %v %v", got, err)
		}
		if got := rules.Drop(none, 0); len(got) > 0 {
			t.Errorf("drop: %v", got)
		}
		if got, ok := rules.Next(none, 0, 0); got != 0 || ok {
			t.Errorf("next: %v %v", got, ok)
		}
	}
}

// TestWhateverIsGiven: nothing panics; beside an error there is nothing; what Add answers is a table, with all rules of both.
func TestWhateverIsGiven(t *testing.T) {
	draw := drawn(6)
	odd := []int{math.MinInt, -1, 0, 1, 1, 1, 2, 2, 3, 7, 8, 11, 12, 1000, 1001, math.MaxInt}
	some := func() []api.Rule {
		var l []api.Rule
		for range draw(20) {
			if draw(12) > 0 {
				l = append(l, rule(1+draw(2), draw(12), 1))
			} else {
				l = append(l, rule(odd[draw(16)], odd[draw(16)], odd[draw(16)]))
			}
		}
		return l
	}
	for range 20000 {
		l, more := some(), some()
		if got, err := rules.Add(l, more); err != api.OK && len(got) > 0 {
			t.Fatalf("%v and %v: %v %v", l, more, got, err)
		}
		table, err := rules.Add(nil, l)
		if err != api.OK {
			continue
		}
		both, err := rules.Add(table, more)
		if err != api.OK && len(both) == 0 {
			continue
		}
		if fault := rules.Wrong(both); err != api.OK || fault != (api.Fault{}) {
			t.Fatalf("%v and %v: %v %v %v", table, more, both, err, fault)
		}
		for _, r := range append(l, more...) {
			if next, ok := rules.Next(both, r.Version, r.Flow); !ok || next != r.Next {
				t.Fatalf("%v and %v: %v has not %v", table, more, both, r)
			}
		}
		for _, r := range both {
			if !slices.Contains(l, r) && !slices.Contains(more, r) {
				t.Fatalf("%v and %v: %v has %v", table, more, both, r)
			}
		}
	}
}
