package room

import (
	"stampways/agent"
	"stampways/api"
	"stampways/control"
	"stampways/paths"
)

// played is a world in its net, with which nothing is wrong.
// What happens to it tells what came of it; what is refused leaves all as it is.
type played struct {
	api.World
	net api.Topo
}

// playedIn is the world in which nothing has happened.
func playedIn(t api.Topo) *played {
	p := &played{net: t}
	p.Switches = make([]api.Switch, t.Switches)
	p.Orders = make([][]api.Order, t.Switches)
	p.Backs = make([][]int, t.Switches)
	return p
}

func (p *played) happen(d api.Do) api.Errno {
	switch d.Kind {
	case api.DoAsk:
		return p.ask(d.Flows)
	case api.DoOrder:
		return p.order(d.N)
	case api.DoBack:
		return p.back(d.N)
	case api.DoBegin:
		return p.begin(d.N)
	case api.DoMove:
		return p.move(d.N)
	case api.DoDrop:
		return p.drop()
	}
	return api.ErrKind
}

// ask takes the new plan from Next: a change that begins gets to Calm at most, where it stands there still.
// Plans have a copy, so that the world's lists share no memory.
func (p *played) ask(l []api.Flow) api.Errno {
	c, told, err := control.Ask(p.Control, p.net, l)
	if err != api.OK {
		return err
	}
	p.take(c, told)
	p.Plans = append(p.Plans, paths.Copy(c.Next))
	return api.OK
}

func (p *played) drop() api.Errno {
	c, told, err := control.Drop(p.Control, p.net)
	if err != api.OK {
		return err
	}
	p.take(c, told)
	return api.OK
}

// order has the next order come to a switch. Its number is not heard of by the control until it is back.
func (p *played) order(s int) api.Errno {
	if !isAny(p.Orders, s) {
		return api.ErrNone
	}
	first := p.Orders[s][0]
	changed, err := agent.Do(p.Switches[s], first)
	if err != api.OK {
		return err
	}
	p.Switches[s] = changed
	p.Orders[s] = p.Orders[s][1:]
	p.Backs[s] = append(p.Backs[s], first.Number)
	return api.OK
}

// back has the next answer come from a switch.
func (p *played) back(s int) api.Errno {
	if !isAny(p.Backs, s) {
		return api.ErrNone
	}
	c, told, err := control.Back(p.Control, p.net, p.Backs[s][0])
	if err != api.OK {
		return err
	}
	p.Backs[s] = p.Backs[s][1:]
	p.take(c, told)
	return api.OK
}

// take has what a control told go on its way.
func (p *played) take(c api.Control, told []api.To) {
	p.Control = c
	for _, x := range told {
		p.Orders[x.Switch] = append(p.Orders[x.Switch], x.Order)
	}
}

// isAny tells whether there is a switch s, and something in its list.
func isAny[T any](lists [][]T, s int) bool {
	return 0 <= s && s < len(lists) && len(lists[s]) > 0
}
