package operation

import "unicode/utf8"

// Read tells the operation that a packet's bytes say, and whether the packet is right for a group of so many peers.
func Read(packet string, peers int) (Operation, bool) {
	if len(packet) == 0 || len(packet) != size(Kind(packet[0]), peers) {
		return Operation{}, false
	}
	r := reader{bytes: packet}
	o := r.operation(peers)
	summed := checkSum([]byte(packet[:r.at]))
	if r.four() != summed || !o.right() {
		return Operation{}, false
	}
	return o, true
}

// size tells how long a packet of a kind is; of what is no kind it tells 0, which no packet is.
func size(kind Kind, peers int) int {
	const ahead, name, char, sum = 1 + 1 + 4 + 4, 4 + 1, 4, 4
	switch kind {
	case Insertion:
		return ahead + 4*peers + name + char + sum
	case Deletion:
		return ahead + 4*peers + name + sum
	}
	return 0
}

// right tells whether each field is within its bounds, in the group that Seen has a number for each peer of.
func (o Operation) right() bool {
	if int(o.Peer) >= len(o.Seen) || o.Number == 0 || o.Clock == 0 {
		return false
	}
	if o.Seen[o.Peer] != o.Number-1 {
		return false
	}
	named := o.Target.Clock > 0 && int(o.Target.Peer) < len(o.Seen)
	if o.Kind == Insertion {
		return utf8.ValidRune(o.Char) && (named || o.Target == Name{})
	}
	return named
}

// reader goes along bytes that are known to be as many as are asked of it.
type reader struct {
	bytes string
	at    int
}

func (r *reader) operation(peers int) Operation {
	var o Operation
	o.Kind = Kind(r.one())
	o.Peer = r.one()
	o.Number = r.four()
	o.Clock = r.four()
	o.Seen = make([]uint32, peers)
	for i := range o.Seen {
		o.Seen[i] = r.four()
	}
	o.Target.Clock = r.four()
	o.Target.Peer = r.one()
	if o.Kind == Insertion {
		o.Char = rune(r.four()) // from 2^31 on it is below 0, and no character either
	}
	return o
}

func (r *reader) one() byte {
	b := r.bytes[r.at]
	r.at++
	return b
}

func (r *reader) four() uint32 {
	n := uint32(0)
	for range 4 {
		n = n<<8 | uint32(r.one())
	}
	return n
}
