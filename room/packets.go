package room

import (
	"stampways/agent"
	"stampways/api"
	"stampways/rules"
)

// begin has a packet of a flow begin: where it is stamped, if it is somewhere.
// While stamps are told, two switches may stamp a flow, or none.
func (p *played) begin(flow int) api.Errno {
	if len(p.Packets) >= api.MaxPackets {
		return api.ErrMany
	}
	at, asked := p.fromOf(flow)
	if !asked {
		return api.ErrNone
	}
	version := 0
	for s, x := range p.Switches {
		if stamp := agent.Version(x, flow); stamp != 0 {
			at, version = s, stamp
			break
		}
	}
	p.Packets = append(p.Packets, api.Packet{Flow: flow, Version: version, Trace: []int{at}, Done: version == 0})
	return api.OK
}

// fromOf tells where a flow begins, by the new plan ahead of the one that holds, and whether one of them has it.
func (p *played) fromOf(flow int) (int, bool) {
	for _, plan := range []api.Plan{p.Control.Next, p.Control.Now} {
		if 0 <= flow && flow < len(plan.Flows) {
			return plan.Flows[flow].From, true
		}
	}
	return 0, false
}

// move has a packet go on, by the rules of where it is.
func (p *played) move(n int) api.Errno {
	if n < 0 || n >= len(p.Packets) || p.Packets[n].Done {
		return api.ErrNone
	}
	packet := &p.Packets[n]
	at := packet.Trace[len(packet.Trace)-1]
	next, there := rules.Next(p.Switches[at].Rules, packet.Version, packet.Flow)
	if there {
		packet.Trace = append(packet.Trace, next)
	} else {
		packet.Done = true
	}
	return api.OK
}
