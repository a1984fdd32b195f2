// Package chorus: a text that several peers write: see DOC.md.
package chorus

import (
	"unicode/utf8"

	"chorus/api"
	"chorus/history"
	"chorus/operation"
	"chorus/row"
)

// Peer has a copy of the text.
type Peer struct {
	self    byte
	clock   uint32
	history history.History // what was delivered, of this peer itself all that it has made
	row     row.Row
	waiting []operation.Operation // in the peers' order, MaxHeld at most
}

// New makes a peer (P3).
func New(peer int, peers int) (*Peer, api.Errno) {
	if peers < 1 || peers > api.MaxPeers || peer < 0 || peer >= peers {
		return nil, api.ErrPeer
	}
	return &Peer{self: byte(peer), history: history.New(peers)}, api.OK
}

// Text tells the text (P4).
func (p *Peer) Text() string {
	if p == nil { // New gives nil with an error, and no call may panic
		return ""
	}
	return p.row.Text()
}

// Known tells how many operations of each peer were delivered (P4).
func (p *Peer) Known() []int {
	if p == nil {
		return nil
	}
	known := make([]int, p.history.Peers())
	for peer, n := range p.history.Counts() {
		known[peer] = int(n)
	}
	return known
}

// Insert puts a character in (P5).
func (p *Peer) Insert(at int, r rune) (string, api.Errno) {
	if p == nil {
		return "", api.ErrPeer
	}
	behind, found := p.nameBehind(at)
	if !found {
		return "", api.ErrPlace
	}
	if !utf8.ValidRune(r) {
		return "", api.ErrRune
	}
	return p.perform(operation.Operation{Kind: operation.Insertion, Target: behind, Char: r})
}

// Delete takes a character out (P6).
func (p *Peer) Delete(at int) (string, api.Errno) {
	if p == nil {
		return "", api.ErrPeer
	}
	target, found := p.row.NameAt(at)
	if !found {
		return "", api.ErrPlace
	}
	return p.perform(operation.Operation{Kind: operation.Deletion, Target: target})
}

// nameBehind tells behind which element a character goes that is put in at a place.
func (p *Peer) nameBehind(at int) (operation.Name, bool) {
	if at <= 0 {
		return operation.Name{}, at == 0
	}
	return p.row.NameAt(at - 1)
}

// perform makes an operation of this peer's own out of what it is to do, and delivers it;
// what waited for it alone goes behind it.
func (p *Peer) perform(o operation.Operation) (string, api.Errno) {
	made := p.history.Count(p.self)
	if made >= api.MaxOps {
		return "", api.ErrFull
	}
	if p.clock == api.MaxClock {
		return "", api.ErrClock
	}
	o.Peer = p.self
	o.Number = made + 1
	o.Clock = p.clock + 1
	o.Seen = p.history.Counts()
	p.deliver(o)
	p.deliverWaiting()
	return o.Packet(), api.OK
}
