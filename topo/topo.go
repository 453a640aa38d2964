// Package topo looks at nets: see doc/01-topo.md.
package topo

import (
	"slices"

	"stampways/api"
)

// Wrong tells the first fault of a net; a link's fault is at the link's number.
func Wrong(t api.Topo) api.Fault {
	_, fault := read(t)
	return fault
}

// Cost is that of the link that joins a and b, either way; 0, if there is none.
func Cost(t api.Topo, a, b int) int {
	links, _ := read(t)
	return links[joining(a, b)]
}

// Reaches tells all switches that are reached from one, itself too, rising.
func Reaches(t api.Topo, from int) []int {
	links, fault := read(t)
	if fault.Err != api.OK || !isSwitch(t, from) {
		return nil
	}
	var reached [api.MaxSwitches]bool
	reached[from] = true
	list := []int{from}
	for done := 0; done < len(list); done++ {
		for next := range t.Switches {
			if !reached[next] && links[joining(list[done], next)] > 0 {
				reached[next] = true
				list = append(list, next)
			}
		}
	}
	slices.Sort(list)
	return list
}

// Length tells what a path costs, and whether it is one of the net at all.
func Length(t api.Topo, p api.Path) (int, bool) {
	links, fault := read(t)
	if fault.Err != api.OK || len(p) == 0 {
		return 0, false
	}
	var met [api.MaxSwitches]bool
	sum := 0
	for i, s := range p {
		if !isSwitch(t, s) || met[s] {
			return 0, false
		}
		met[s] = true
		if i == 0 {
			continue
		}
		cost := links[joining(p[i-1], s)]
		if cost == 0 {
			return 0, false
		}
		sum += cost
	}
	return sum, true
}
