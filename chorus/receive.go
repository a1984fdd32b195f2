package chorus

import (
	"slices"

	"chorus/api"
	"chorus/operation"
)

// Receive takes packets, and tells how many operations could be delivered by them (P7).
func (p *Peer) Receive(packets ...string) (int, api.Errno) {
	if p == nil {
		return 0, api.ErrPeer
	}
	delivered := 0
	for _, packet := range packets {
		n, err := p.receiveOne(packet)
		delivered += n
		if err != api.OK {
			return delivered, err
		}
	}
	return delivered, api.OK
}

func (p *Peer) receiveOne(packet string) (int, api.Errno) {
	o, right := operation.Read(packet, p.history.Peers())
	switch {
	case !right || o.Peer == p.self && o.Number > p.history.Count(p.self):
		return 0, api.ErrPacket
	case o.Number <= p.history.Count(o.Peer) || p.waitsAlready(o):
		return 0, api.OK
	case p.canDeliver(o):
		p.deliver(o)
		return 1 + p.deliverWaiting(), api.OK
	case len(p.waiting) >= api.MaxHeld:
		return 0, api.ErrFull
	}
	p.wait(o)
	return 0, api.OK
}

func (p *Peer) waitsAlready(o operation.Operation) bool {
	return slices.ContainsFunc(p.waiting, func(w operation.Operation) bool {
		return w.Peer == o.Peer && w.Number == o.Number
	})
}

// wait keeps what waits in the peers' order, so that the first that can be delivered is that of the least peer.
func (p *Peer) wait(o operation.Operation) {
	place := 0
	for place < len(p.waiting) && p.waiting[place].Peer <= o.Peer {
		place++
	}
	p.waiting = slices.Insert(p.waiting, place, o)
}

// canDeliver is P9's; of the operation's own peer Seen says no more than its number does.
func (p *Peer) canDeliver(o operation.Operation) bool {
	for peer, n := range o.Seen {
		if p.history.Count(byte(peer)) < n {
			return false
		}
	}
	return o.Number == p.history.Count(o.Peer)+1
}

// deliverWaiting delivers what can be of what waits, and tells how many it could.
// Each delivery may let one go that stands further ahead, of a lesser peer.
func (p *Peer) deliverWaiting() int {
	delivered := 0
again:
	for {
		for i, o := range p.waiting {
			if p.canDeliver(o) {
				p.waiting = slices.Delete(p.waiting, i, i+1)
				p.deliver(o)
				delivered++
				continue again
			}
		}
		return delivered
	}
}

// deliver does what P8 says; that the operation can be delivered is the caller's to know.
func (p *Peer) deliver(o operation.Operation) {
	p.clock = max(p.clock, o.Clock)
	p.history.Add(o)
	switch o.Kind {
	case operation.Insertion:
		p.row.Insert(o.Name(), o.Target, o.Char)
	case operation.Deletion:
		p.row.Kill(o.Target)
	}
}
