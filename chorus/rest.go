package chorus

import (
	"slices"

	"chorus/api"
)

// Rest tells the packets that another one has not got (P10).
func (p *Peer) Rest(known []int) ([]string, api.Errno) {
	if p == nil || len(known) != p.history.Peers() || slices.ContainsFunc(known, belowNone) {
		return nil, api.ErrPeer
	}
	var packets []string
	for _, o := range p.history.Above(known) {
		packets = append(packets, o.Packet()) // a right packet's bytes say nothing but the operation
	}
	return packets, api.OK
}

func belowNone(n int) bool { return n < 0 }
