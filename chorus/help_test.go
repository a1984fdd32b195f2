package chorus

import (
	"math"
	"slices"
	"testing"

	"chorus/api"
)

// wrongPlaces are places that no text has.
var wrongPlaces = []int{-1, -2, math.MinInt, math.MaxInt, math.MinInt32, math.MaxInt32}

// wrongRunes are the neighbours of the characters, and the ends of the type.
var wrongRunes = []rune{-1, 55296, 57343, 1114112, math.MinInt32, math.MaxInt32}

func newPeer(t *testing.T, peer, peers int) *Peer {
	t.Helper()
	p, e := New(peer, peers)
	if p == nil || e != api.OK {
		t.Fatalf("P3: New(%d, %d) = %v, %d", peer, peers, p, e)
	}
	return p
}

func insert(t *testing.T, p *Peer, at int, r rune) string {
	t.Helper()
	s, e := p.Insert(at, r)
	if e != api.OK {
		t.Fatalf("P5: Insert(%d, %d): error %d", at, r, e)
	}
	return s
}

func remove(t *testing.T, p *Peer, at int) string {
	t.Helper()
	s, e := p.Delete(at)
	if e != api.OK {
		t.Fatalf("P6: Delete(%d): error %d", at, e)
	}
	return s
}

// receive hands packets in of which none is refused.
func receive(t *testing.T, p *Peer, delivered int, packets ...string) {
	t.Helper()
	wantReceived(t, p, delivered, api.OK, packets...)
}

func wantReceived(t *testing.T, p *Peer, delivered int, want api.Errno, packets ...string) {
	t.Helper()
	if n, e := p.Receive(packets...); n != delivered || e != want {
		t.Errorf("P7: Receive = %d, %d, want %d, %d", n, e, delivered, want)
	}
}

func wantState(t *testing.T, p *Peer, text string, known ...int) {
	t.Helper()
	if got := p.Text(); got != text {
		t.Errorf("P4: the text is %q, want %q", got, text)
	}
	if got := p.Known(); !slices.Equal(got, known) {
		t.Errorf("P4: known is %v, want %v", got, known)
	}
}

func wantPacket(t *testing.T, got, want string) {
	t.Helper()
	if got != want {
		t.Errorf("the packet is %v, want %v", []byte(got), []byte(want))
	}
}

func wantRefused(t *testing.T, call string, got string, e, want api.Errno) {
	t.Helper()
	if got != "" || e != want {
		t.Errorf("%s = %q, %d, want nothing, %d", call, got, e, want)
	}
}

// packet writes a packet out by the document's words, by itself; chars is empty for a deletion.
func packet(kind, peer byte, number, clock uint32, seen []int, targetClock uint32, targetPeer byte, chars ...rune) string {
	s := string([]byte{kind, peer}) + four(number) + four(clock)
	for _, n := range seen {
		s += four(uint32(n))
	}
	s += four(targetClock) + string([]byte{targetPeer})
	for _, c := range chars {
		s += four(uint32(c))
	}
	sum := uint64(0)
	for i := range len(s) {
		sum = (sum*65599 + uint64(s[i]) + 1) % (1 << 32)
	}
	return s + four(uint32(sum))
}

func four(n uint32) string {
	return string([]byte{byte(n >> 24), byte(n >> 16), byte(n >> 8), byte(n)})
}
