package rules

import (
	"cmp"
	"slices"

	"stampways/api"
)

// Wrong tells why rules are no table; a rule's fault is at the rule's number.
func Wrong(l []api.Rule) api.Fault {
	if len(l) > api.Cap {
		return api.Fault{Err: api.ErrFull}
	}
	for i, r := range l {
		if !inRange(r) {
			return api.Fault{Err: api.ErrRange, At: i}
		}
		if i > 0 && order(l[i-1], r) >= 0 {
			return api.Fault{Err: api.ErrForm, At: i}
		}
	}
	return api.Fault{}
}

// Add tells the table of a table's rules and of more of them.
// Rules that are there already may be told again; one that leads elsewhere stays beside the first one, where Wrong finds it.
func Add(l, more []api.Rule) ([]api.Rule, api.Errno) {
	if fault := Wrong(l); fault.Err != api.OK {
		return nil, fault.Err
	}
	all := slices.Concat(l, more)
	slices.SortStableFunc(all, order)
	all = slices.Compact(all)
	if fault := Wrong(all); fault.Err != api.OK {
		return nil, fault.Err
	}
	return all, api.OK
}

// Drop tells the rules without those of a version, be they a table or not.
func Drop(l []api.Rule, version int) []api.Rule {
	var out []api.Rule
	for _, r := range l {
		if r.Version != version {
			out = append(out, r)
		}
	}
	return out
}

// Next tells where the first rule for a flow's packets of a version leads, and whether there is one.
func Next(l []api.Rule, version, flow int) (int, bool) {
	for _, r := range l {
		if r.Version == version && r.Flow == flow {
			return r.Next, true
		}
	}
	return 0, false
}

func inRange(r api.Rule) bool {
	return 1 <= r.Version && r.Version <= api.MaxVersion &&
		0 <= r.Flow && r.Flow < api.MaxFlows &&
		0 <= r.Next && r.Next < api.MaxSwitches
}

// order leaves Next out: a table leads a flow's packets of a version to one switch only.
func order(a, b api.Rule) int {
	return cmp.Or(cmp.Compare(a.Version, b.Version), cmp.Compare(a.Flow, b.Flow))
}
