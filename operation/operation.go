// Package operation: what a peer does to the text, and the packet that tells the others of it.
package operation

// Kind tells an insertion from a deletion; it is a packet's first byte.
type Kind byte

const (
	Insertion Kind = 1
	Deletion  Kind = 2
)

// Name names an element by the clock and the peer of its insertion.
// The zero Name is the beginning of the row: no insertion has the clock 0.
type Name struct {
	Clock uint32
	Peer  byte
}

// Greater tells whether the element named n is greater than the one named other.
func (n Name) Greater(other Name) bool {
	if n.Clock != other.Clock {
		return n.Clock > other.Clock
	}
	return n.Peer > other.Peer
}

// Operation is an insertion or a deletion, as its maker made it.
// Its numbers are as wide as they are in a packet, so that none is cut there.
type Operation struct {
	Kind   Kind
	Peer   byte
	Number uint32
	Clock  uint32
	Seen   []uint32 // of each peer, how many were delivered to the maker ahead of it
	Target Name     // an insertion goes behind this one, a deletion takes it out
	Char   rune     // of an insertion alone
}

// Name is that of the element which the operation puts in, if it is an insertion.
func (o Operation) Name() Name {
	return Name{Clock: o.Clock, Peer: o.Peer}
}

// Packet tells the operation's bytes, the check sum at their end.
func (o Operation) Packet() string {
	b := []byte{byte(o.Kind), o.Peer}
	b = appendFour(b, o.Number)
	b = appendFour(b, o.Clock)
	for _, n := range o.Seen {
		b = appendFour(b, n)
	}
	b = appendFour(b, o.Target.Clock)
	b = append(b, o.Target.Peer)
	if o.Kind == Insertion {
		b = appendFour(b, uint32(o.Char))
	}
	return string(appendFour(b, checkSum(b)))
}

func appendFour(b []byte, n uint32) []byte {
	return append(b, byte(n>>24), byte(n>>16), byte(n>>8), byte(n))
}

// checkSum leans on uint32's wrap-round for the modulus.
func checkSum(bytes []byte) uint32 {
	sum := uint32(0)
	for _, b := range bytes {
		sum = sum*65599 + uint32(b) + 1
	}
	return sum
}
