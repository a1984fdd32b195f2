package chorus

import (
	"math/rand"
	"slices"
	"testing"

	"chorus/api"
)

// wire is what a packet says, right or not.
type wire struct {
	kind, peer, number, clock int
	seen                      []int
	targetClock, targetPeer   int
	char                      rune
}

func (w wire) packet() string {
	var chars []rune
	if w.kind != 2 {
		chars = []rune{w.char}
	}
	return packet(byte(w.kind), byte(w.peer), uint32(w.number), uint32(w.clock), w.seen, uint32(w.targetClock), byte(w.targetPeer), chars...)
}

func (w wire) right(peers int) bool {
	if w.kind < 1 || w.kind > 2 || len(w.seen) != peers || w.peer >= peers || w.number < 1 || w.clock < 1 {
		return false
	}
	if w.seen[w.peer]+1 != w.number {
		return false
	}
	if w.kind == 1 && (w.char < 0 || w.char > 1114111 || w.char >= 55296 && w.char <= 57343) {
		return false
	}
	if w.kind == 1 && w.targetClock == 0 && w.targetPeer == 0 {
		return true
	}
	return w.targetClock >= 1 && w.targetPeer < peers
}

// cell is an element of the model's row.
type cell struct {
	clock, peer int
	char        rune
	dead        bool
}

// copyModel is a peer among others by the document's words: what waits lies in a map, the row in a list.
type copyModel struct {
	self, clock int
	known       []int
	cells       []cell
	held        map[[2]int]wire
	delivered   []wire // as they came to be
}

func (m *copyModel) can(w wire) bool {
	for q := range m.known {
		if q == w.peer && w.number != m.known[q]+1 || q != w.peer && m.known[q] < w.seen[q] {
			return false
		}
	}
	return true
}

func (m *copyModel) place(clock, peer int) int {
	return slices.IndexFunc(m.cells, func(c cell) bool { return c.clock == clock && c.peer == peer })
}

func (m *copyModel) deliver(w wire) {
	m.known[w.peer]++
	m.delivered = append(m.delivered, w)
	m.clock = max(m.clock, w.clock)
	at := m.place(w.targetClock, w.targetPeer)
	if w.kind == 2 {
		if at >= 0 {
			m.cells[at].dead = true
		}
		return
	}
	if m.place(w.clock, w.peer) >= 0 || at < 0 && w.targetClock > 0 {
		return
	}
	for at++; at < len(m.cells); at++ {
		c := m.cells[at]
		if c.clock*8+c.peer < w.clock*8+w.peer { // a group has no more than eight
			break
		}
	}
	m.cells = slices.Insert(m.cells, at, cell{w.clock, w.peer, w.char, false})
}

// settle delivers one, and what can be behind it.
func (m *copyModel) settle(w wire) int {
	m.deliver(w)
	n := 1
	for q := 0; q < len(m.known); q++ {
		key := [2]int{q, m.known[q] + 1}
		if next, waits := m.held[key]; waits && m.can(next) {
			delete(m.held, key)
			m.deliver(next)
			n++
			q = -1
		}
	}
	return n
}

func (m *copyModel) receive(list []wire) (int, api.Errno) {
	n := 0
	for _, w := range list {
		if !w.right(len(m.known)) || w.peer == m.self && w.number > m.known[m.self] {
			return n, api.ErrPacket
		}
		key := [2]int{w.peer, w.number}
		if _, waits := m.held[key]; waits || w.number <= m.known[w.peer] {
			continue
		}
		if m.can(w) {
			n += m.settle(w)
			continue
		}
		if len(m.held) == api.MaxHeld {
			return n, api.ErrFull
		}
		m.held[key] = w
	}
	return n, api.OK
}

// rest looks again and again through all that was delivered for each peer's next one.
func (m *copyModel) rest(known []int) []string {
	next := slices.Clone(known)
	var told []string
	for {
		var least *wire
		for i, w := range m.delivered {
			if w.number == next[w.peer]+1 && (least == nil || w.clock*8+w.peer < least.clock*8+least.peer) {
				least = &m.delivered[i]
			}
		}
		if least == nil {
			return told
		}
		next[least.peer]++
		told = append(told, least.packet())
	}
}

func (m *copyModel) living() []cell {
	return slices.DeleteFunc(slices.Clone(m.cells), func(c cell) bool { return c.dead })
}

func (m *copyModel) text() string {
	text := ""
	for _, c := range m.living() {
		text += string(c.char)
	}
	return text
}

// own is the operation that an own call makes, at a place that there is.
func (m *copyModel) own(kind, at int, char rune) (wire, api.Errno) {
	if m.known[m.self] == api.MaxOps {
		return wire{}, api.ErrFull
	}
	if m.clock == api.MaxClock {
		return wire{}, api.ErrClock
	}
	w := wire{kind: kind, peer: m.self, number: m.known[m.self] + 1, clock: m.clock + 1, seen: slices.Clone(m.known), char: char}
	if kind == 2 {
		at++
	}
	if at > 0 {
		c := m.living()[at-1]
		w.targetClock, w.targetPeer = c.clock, c.peer
	}
	m.settle(w)
	return w, api.OK
}

// drawWire draws what is near to what the model could deliver, and is now and then out of its bounds.
func drawWire(r *rand.Rand, m *copyModel, spread int) wire {
	peers := len(m.known)
	w := wire{kind: 1 + r.Intn(2), peer: r.Intn(peers), clock: 1 + r.Intn(m.clock%1000+4), char: rune('a' + r.Intn(26))}
	if w.peer == m.self && r.Intn(8) > 0 { // most of its own would end the call
		w.peer = (w.peer + 1) % peers
	}
	w.number = max(1, m.known[w.peer]+r.Intn(spread))
	for _, k := range m.known {
		w.seen = append(w.seen, max(0, k+r.Intn(4)-2))
	}
	w.seen[w.peer] = w.number - 1
	if w.kind == 2 || r.Intn(2) == 0 {
		w.targetClock, w.targetPeer = 1+r.Intn(m.clock%1000+3), r.Intn(peers)
	}
	if len(m.cells) > 0 && r.Intn(3) > 0 {
		c := m.cells[r.Intn(len(m.cells))]
		w.targetClock, w.targetPeer = c.clock, c.peer
	}
	switch r.Intn(300) {
	case 0:
		w.kind = []int{0, 3, 255}[r.Intn(3)]
	case 1:
		w.peer = peers
	case 2:
		w.number = r.Intn(3)
	case 3:
		w.clock = 0
	case 4:
		w.seen = append(w.seen, 0)
	case 5:
		w.targetClock = 0
	case 6:
		w.targetPeer = peers
	case 7:
		w.char = []rune{-1, 55296, 57343, 1114112}[r.Intn(4)]
	case 8:
		w.clock = 1<<32 - 1
	}
	return w
}

// drawReceive lets the peer and the model receive the same, and tells how many were delivered.
func drawReceive(t *testing.T, r *rand.Rand, p *Peer, m *copyModel, spread int) (int, api.Errno) {
	t.Helper()
	var list []wire
	var packets []string
	for range r.Intn(5) {
		w := drawWire(r, m, spread)
		list, packets = append(list, w), append(packets, w.packet())
	}
	want, wantErr := m.receive(list)
	got, e := p.Receive(packets...)
	if got != want || e != wantErr {
		t.Fatalf("P7 to P9: Receive = %d, %d, want %d, %d", got, e, want, wantErr)
	}
	return got, e
}

// drawOwn lets the peer and the model write the same.
func drawOwn(t *testing.T, r *rand.Rand, p *Peer, m *copyModel) api.Errno {
	t.Helper()
	var w wire
	var got string
	var e, wantErr api.Errno
	if size := len(m.living()); size > 0 && r.Intn(3) == 0 {
		at := r.Intn(size)
		w, wantErr = m.own(2, at, 0)
		got, e = p.Delete(at)
	} else {
		at, char := r.Intn(size+1), rune('A'+r.Intn(26))
		w, wantErr = m.own(1, at, char)
		got, e = p.Insert(at, char)
	}
	want := ""
	if wantErr == api.OK {
		want = w.packet()
	}
	if got != want || e != wantErr {
		t.Fatalf("P5, P6: %q, %d, want %q, %d", got, e, want, wantErr)
	}
	return e
}

// drawRest asks the peer and the model for the same, and tells whether it was refused.
func drawRest(t *testing.T, r *rand.Rand, p *Peer, m *copyModel) api.Errno {
	t.Helper()
	var known []int
	for _, n := range m.known {
		known = append(known, max(0, r.Intn(n+3)-1))
	}
	switch r.Intn(30) {
	case 0:
		known = append(known, 0)
	case 1:
		known = known[1:]
	case 2:
		known[r.Intn(len(known))] = -1
	default:
		wantRest(t, p, known, m.rest(known)...)
		return api.OK
	}
	wantNoRest(t, p, known)
	return api.ErrPeer
}

// TestDrawnPackets holds a peer against the model, over strange packets and own calls.
func TestDrawnPackets(t *testing.T) {
	r := rand.New(rand.NewSource(3))
	met, most := map[api.Errno]int{}, 0
	for range 400 {
		peers, spread := 1+r.Intn(5), 3+r.Intn(12)
		m := &copyModel{self: r.Intn(peers), known: make([]int, peers), held: map[[2]int]wire{}}
		p := newPeer(t, m.self, peers)
		for range 80 {
			switch r.Intn(8) {
			case 0, 1:
				met[drawOwn(t, r, p, m)]++
			case 2:
				met[drawRest(t, r, p, m)]++
			default:
				n, e := drawReceive(t, r, p, m, spread)
				met[e]++
				most = max(most, n)
			}
			wantState(t, p, m.text(), m.known...)
		}
	}
	for _, e := range []api.Errno{api.OK, api.ErrPeer, api.ErrPacket, api.ErrFull, api.ErrClock} {
		if met[e] < 100 {
			t.Errorf("the draw met the error %d only %d times", e, met[e])
		}
	}
	if most < 8 {
		t.Errorf("the draw delivered %d at most in one call", most)
	}
}

// drawCall lets one of a group write, or receive some of what the group has made; it answers what was made.
func drawCall(t *testing.T, r *rand.Rand, p *Peer, packets []string) []string {
	t.Helper()
	size := len([]rune(p.Text()))
	switch {
	case len(packets) > 0 && r.Intn(2) == 0:
		var some []string
		for range 1 + r.Intn(4) {
			some = append(some, packets[r.Intn(len(packets))])
		}
		if _, e := p.Receive(some...); e != api.OK && e != api.ErrFull {
			t.Fatalf("P7: Receive of what was made: error %d", e)
		}
	case size > 0 && r.Intn(4) == 0:
		return append(packets, remove(t, p, r.Intn(size)))
	default:
		return append(packets, insert(t, p, r.Intn(size+1), rune('a'+r.Intn(26))))
	}
	return packets
}

// wantCaughtUp lets one that never wrote receive what each of its group tells it, one behind the other: all goes at once.
func wantCaughtUp(t *testing.T, group []*Peer) {
	t.Helper()
	late := newPeer(t, len(group)-1, len(group))
	for _, p := range group {
		told, e := p.Rest(late.Known())
		if e != api.OK {
			t.Fatalf("P10: Rest(%v): error %d", late.Known(), e)
		}
		for _, s := range told {
			receive(t, late, 1, s)
		}
		for q, n := range p.Known() {
			if late.Known()[q] < n {
				t.Fatalf("P10: behind the rest %v are known, of %v", late.Known(), p.Known())
			}
		}
		wantRest(t, p, late.Known())
	}
}

// TestDrawnGroups: who has got the same operations has the same text, while they come and at the end.
func TestDrawnGroups(t *testing.T) {
	r := rand.New(rand.NewSource(4))
	for range 60 {
		peers := 2 + r.Intn(4)
		var group []*Peer
		for i := range peers + 1 { // the last one never writes
			group = append(group, newPeer(t, i, peers+1))
		}
		var packets []string
		texts := map[[api.MaxPeers]int]string{}
		for range 80 {
			p := group[r.Intn(peers)]
			packets = drawCall(t, r, p, packets)
			var known [api.MaxPeers]int
			copy(known[:], p.Known())
			if text, met := texts[known]; met && text != p.Text() {
				t.Fatalf("P8: two that know %v have %q and %q", known, text, p.Text())
			}
			texts[known] = p.Text()
		}
		wantCaughtUp(t, group)
		for _, p := range group {
			for range len(packets) { // each time the next one comes to pass, if nothing else does
				for _, i := range r.Perm(len(packets)) {
					p.Receive(packets[i])
				}
			}
			wantState(t, p, group[0].Text(), group[0].Known()...)
		}
		total := 0
		for _, n := range group[0].Known() {
			total += n
		}
		if total != len(packets) {
			t.Fatalf("P9: %d of %d were delivered", total, len(packets))
		}
	}
}
