// Package history: the operations that were delivered to a peer, and in which order another one is told of them.
package history

import (
	"container/heap"

	"chorus/operation"
)

// History has the operations of each peer of a group, in the order of their numbers.
type History struct {
	byPeer [][]operation.Operation
}

// New makes a history of a group of so many peers, in which nothing is.
func New(peers int) History {
	return History{byPeer: make([][]operation.Operation, peers)}
}

// Peers tells how many peers the group has.
func (h *History) Peers() int {
	return len(h.byPeer)
}

// Count tells how many of a peer's operations there are; it is as wide as it is in a packet.
func (h *History) Count(peer byte) uint32 {
	return uint32(len(h.byPeer[peer]))
}

// Counts tells of each peer how many of its operations there are.
func (h *History) Counts() []uint32 {
	counts := make([]uint32, len(h.byPeer))
	for peer := range counts {
		counts[peer] = h.Count(byte(peer))
	}
	return counts
}

// Add lays an operation behind those of its peer; that its number is the next one there is the caller's to know.
func (h *History) Add(o operation.Operation) {
	h.byPeer[o.Peer] = append(h.byPeer[o.Peer], o)
}

// Above tells the operations whose number is above their peer's number in known, in P10's order;
// known has one number for each peer, none below 0.
// It merges, for a sort would break the order of a peer's own ones where a packet's clock goes back.
func (h *History) Above(known []int) []operation.Operation {
	var left lines
	for peer, all := range h.byPeer {
		if known[peer] < len(all) {
			heap.Push(&left, line(all[known[peer]:]))
		}
	}
	var merged []operation.Operation
	for len(left) > 0 {
		merged = append(merged, left[0][0])
		left.takeFirst()
	}
	return merged
}
