package flows_test

import (
	"math"
	"reflect"
	"slices"
	"testing"

	"stampways/api"
	"stampways/flows"
)

func flow(from, to int, via, not []int) api.Flow {
	return api.Flow{From: from, To: to, Via: via, Not: not}
}

func plain(from, to int) api.Flow { return flow(from, to, nil, nil) }

// copyOf makes flows anew, without any room behind their lists.
func copyOf(l []api.Flow) []api.Flow {
	var out []api.Flow
	for _, f := range l {
		out = append(out, flow(f.From, f.To, slices.Clone(f.Via), slices.Clone(f.Not)))
	}
	return out
}

func same(a, b []api.Flow) bool {
	return slices.EqualFunc(a, b, func(f, g api.Flow) bool {
		return f.From == g.From && f.To == g.To && slices.Equal(f.Via, g.Via) && slices.Equal(f.Not, g.Not)
	})
}

func TestWrong(t *testing.T) {
	none, fit, name := api.ErrNone, api.ErrFit, api.ErrName
	for _, c := range []struct {
		what string
		flow api.Flow
		want api.Errno
	}{
		{"least", plain(0, 1), api.OK},
		{"last switch first", plain(4, 0), api.OK},
		{"from below 0", plain(-1, 1), none},
		{"to below 0", plain(1, -1), none},
		{"from behind the last", plain(5, 1), none},
		{"to behind the last", plain(1, 5), none},
		{"from far", plain(math.MinInt, 1), none},
		{"to far", plain(1, math.MaxInt), none},
		{"to itself", plain(2, 2), fit},
		{"to itself, and there is none", plain(5, 5), none},

		{"all switches", flow(0, 4, []int{3, 1}, []int{2}), api.OK},
		{"all by way of", flow(0, 4, []int{3, 2, 1}, nil), api.OK},
		{"all but", flow(0, 4, nil, []int{1, 3, 2}), api.OK},
		{"via none", flow(0, 1, []int{2, 5}, nil), none},
		{"via below 0", flow(0, 1, []int{-1}, nil), none},
		{"via from", flow(0, 1, []int{2, 0}, nil), fit},
		{"via to", flow(0, 1, []int{1}, nil), fit},
		{"via twice", flow(0, 1, []int{2, 2}, nil), name},
		{"via twice, far apart", flow(0, 1, []int{2, 3, 4, 2}, nil), name},
		{"not over none", flow(0, 1, nil, []int{2, 5}), none},
		{"not over below 0", flow(0, 1, nil, []int{-7}), none},
		{"not over from", flow(0, 1, nil, []int{2, 0}), fit},
		{"not over to", flow(0, 1, nil, []int{1}), fit},
		{"not over one twice", flow(0, 1, nil, []int{3, 3}), name},
		{"not over one twice, far apart", flow(0, 1, nil, []int{4, 3, 2, 4}), name},
		{"in both", flow(0, 1, []int{2}, []int{3, 2}), fit},
		{"in both, first ones", flow(0, 1, []int{2, 3}, []int{2}), fit},

		{"to itself ahead of via", flow(1, 1, []int{9}, nil), fit},
		{"via ahead of not", flow(0, 1, []int{2, 2}, []int{9}), name},
		{"via switch by switch: from, then none", flow(0, 1, []int{0, 9}, nil), fit},
		{"via switch by switch: twice, then none", flow(0, 1, []int{2, 2, 9}, nil), name},
		{"via switch by switch: none, then twice", flow(0, 1, []int{9, 9}, nil), none},
		{"via: from twice", flow(0, 1, []int{0, 0}, nil), fit},
		{"not switch by switch: twice, then to", flow(0, 1, nil, []int{2, 2, 1}), name},
		{"not switch by switch: to, then twice", flow(0, 1, nil, []int{1, 2, 2}), fit},
		{"not none ahead of both", flow(0, 1, []int{2}, []int{2, 9}), none},
		{"not twice ahead of both", flow(0, 1, []int{2}, []int{2, 2}), name},
	} {
		for at := range 3 {
			l := []api.Flow{plain(0, 1), plain(1, 0), plain(3, 2)}
			l[at] = c.flow
			want := api.Fault{Err: c.want, At: at}
			if c.want == api.OK {
				want = api.Fault{}
			}
			if got := flows.Wrong(l, 5); got != want {
				t.Errorf("%s, at %d: %v, not %v", c.what, at, got, want)
			}
			text, got := flows.Print(l, 5)
			if got != want || (text == "") != (c.want != api.OK) {
				t.Errorf("%s, at %d: Print tells %q and %v, not %v", c.what, at, text, got, want)
			}
		}
	}
}

func TestWrongHowMany(t *testing.T) {
	many := slices.Repeat([]api.Flow{plain(0, 1)}, api.MaxFlows+1)
	last := slices.Clone(many[1:])
	last[api.MaxFlows-1] = plain(3, 3)
	two := []api.Flow{plain(0, 1), flow(0, 1, []int{1}, nil), plain(0, 9)}
	for _, c := range []struct {
		what string
		l    []api.Flow
		n    int
		want api.Fault
	}{
		{"none", nil, 5, api.Fault{}},
		{"none in no net", nil, 0, api.Fault{}},
		{"none in less than no net", []api.Flow{}, math.MinInt, api.Fault{}},
		{"most, all the same", many[1:], 2, api.Fault{}},
		{"one too many", many, 2, api.Fault{Err: api.ErrMany}},
		{"one too many, and wrong", make([]api.Flow, api.MaxFlows+1), 2, api.Fault{Err: api.ErrMany}},
		{"far too many", make([]api.Flow, 5000), 0, api.Fault{Err: api.ErrMany}},
		{"the last one", last, 5, api.Fault{Err: api.ErrFit, At: api.MaxFlows - 1}},
		{"the first of two", two, 5, api.Fault{Err: api.ErrFit, At: 1}},
		{"no net", two, 0, api.Fault{Err: api.ErrNone}},
		{"less than no net", two, -3, api.Fault{Err: api.ErrNone}},
		{"least number of all", two, math.MinInt, api.Fault{Err: api.ErrNone}},
		{"one switch", two, 1, api.Fault{Err: api.ErrNone}},
		{"two switches", two[:1], 2, api.Fault{}},
		{"a great net", []api.Flow{plain(0, math.MaxInt-1)}, math.MaxInt, api.Fault{}},
		{"not in a great net", []api.Flow{plain(0, math.MaxInt)}, math.MaxInt, api.Fault{Err: api.ErrNone}},
	} {
		if got := flows.Wrong(c.l, c.n); got != c.want {
			t.Errorf("%s: %v, not %v", c.what, got, c.want)
		}
	}
}

// plainWrong says B1 of one flow over again, by looking at everything each time.
func plainWrong(f api.Flow, n int) api.Errno {
	is := func(s int) bool { return s >= 0 && s < n }
	if !is(f.From) || !is(f.To) {
		return api.ErrNone
	}
	if f.From == f.To {
		return api.ErrFit
	}
	for _, list := range [][]int{f.Via, f.Not} {
		for i, s := range list {
			if !is(s) {
				return api.ErrNone
			}
			if s == f.From || s == f.To {
				return api.ErrFit
			}
			if slices.Contains(list[:i], s) {
				return api.ErrName
			}
		}
	}
	if slices.ContainsFunc(f.Via, func(s int) bool { return slices.Contains(f.Not, s) }) {
		return api.ErrFit
	}
	return api.OK
}

// lists are all lists of at most so many numbers from -1 to top.
func lists(most, top int) [][]int {
	out := [][]int{nil}
	for at := 0; at < len(out); at++ {
		for s := -1; s <= top && len(out[at]) < most; s++ {
			out = append(out, append(slices.Clone(out[at]), s))
		}
	}
	return out
}

func TestWrongOfAllSmallFlows(t *testing.T) {
	all := lists(2, 4)
	for n := -1; n <= 4; n++ {
		for from := -1; from <= 4; from++ {
			for to := -1; to <= 4; to++ {
				for _, via := range all {
					for _, not := range all {
						f := flow(from, to, via, not)
						if got, want := flows.Wrong([]api.Flow{f}, n), plainWrong(f, n); got != (api.Fault{Err: want}) {
							t.Fatalf("%v of %d: %v, not %v", f, n, got, want)
						}
					}
				}
			}
		}
	}
}

// TestWrongOfLongLists would not end if each switch were held against each one ahead.
func TestWrongOfLongLists(t *testing.T) {
	const long = 1 << 19
	via, not := make([]int, long), make([]int, long)
	for i := range long {
		via[i], not[i] = 2+i, 2+long+i
	}
	l := []api.Flow{flow(0, 1, via, not)}
	if got := flows.Wrong(l, 2+2*long); got != (api.Fault{}) {
		t.Errorf("long lists: %v", got)
	}
	not[long-1] = via[long-1]
	if got := flows.Wrong(l, 2+2*long); got != (api.Fault{Err: api.ErrFit}) {
		t.Errorf("in both: %v", got)
	}
	via[long-1] = via[0]
	if got := flows.Wrong(l, 2+2*long); got != (api.Fault{Err: api.ErrName}) {
		t.Errorf("twice: %v", got)
	}
}

// TestOnlyReads: lists that are handed in, and the spare room behind them, are neither changed nor looked at, nor kept.
func TestOnlyReads(t *testing.T) {
	via, not := []int{2, 3, 2, 0, -1}, []int{4, 2, 4, 9}
	room := []api.Flow{flow(0, 1, via[:2], not[:1]), plain(1, 0), plain(7, 7), plain(-1, 0)}
	keptVia, keptNot, keptRoom := slices.Clone(via), slices.Clone(not), copyOf(room)
	l := room[:2]
	if got := flows.Wrong(l, 5); got != (api.Fault{}) {
		t.Errorf("wrong: %v", got)
	}
	text, f := flows.Print(l, 5)
	if text != "0>1 via 2,3 not 4\n1>0\n" || f != (api.Fault{}) {
		t.Errorf("print: %q %v", text, f)
	}
	if !slices.Equal(via, keptVia) || !slices.Equal(not, keptNot) || !same(room, keptRoom) {
		t.Error("what was handed in is changed")
	}
	clear(via)
	clear(room)
	if text != "0>1 via 2,3 not 4\n1>0\n" {
		t.Errorf("the text changed with the flows: %q", text)
	}
}

func TestNilAndEmptyAreTheSame(t *testing.T) {
	for _, l := range [][]api.Flow{nil, {}} {
		if got := flows.Wrong(l, 2); got != (api.Fault{}) {
			t.Errorf("wrong: %v", got)
		}
		if text, f := flows.Print(l, 2); text != "" || f != (api.Fault{}) {
			t.Errorf("print: %q %v", text, f)
		}
	}
	for _, via := range [][]int{nil, {}} {
		for _, not := range [][]int{nil, {}} {
			l := []api.Flow{flow(0, 1, via, not)}
			if got := flows.Wrong(l, 2); got != (api.Fault{}) {
				t.Errorf("wrong: %v", got)
			}
			if text, f := flows.Print(l, 2); text != "0>1\n" || f != (api.Fault{}) {
				t.Errorf("print: %q %v", text, f)
			}
		}
	}
}

func TestAnswersAreNewMemory(t *testing.T) {
	const text = "0>9 via 1,2,3 not 4,5,6\n1>8 via 2,3,4 not 5,6,7\n"
	want := []api.Flow{flow(0, 9, []int{1, 2, 3}, []int{4, 5, 6}), flow(1, 8, []int{2, 3, 4}, []int{5, 6, 7})}
	first, _ := flows.Parse(text)
	second, _ := flows.Parse(text)
	for _, f := range first {
		clear(f.Via[:cap(f.Via)])
	}
	for i, f := range first {
		if !slices.Equal(f.Not, want[i].Not) {
			t.Errorf("two lists of an answer share memory: %v", f)
		}
	}
	for _, f := range first {
		clear(f.Not[:cap(f.Not)])
	}
	clear(first[:cap(first)])
	if third, _ := flows.Parse(text); !same(second, want) || !same(third, want) {
		t.Errorf("two answers share memory: %v, %v", second, third)
	}
	if !reflect.DeepEqual(first, make([]api.Flow, 2)) {
		t.Errorf("an answer is not the caller's: %v", first)
	}
}
