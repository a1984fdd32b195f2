package chorus

import (
	"math/rand"
	"slices"
	"testing"

	"chorus/api"
)

// model is a peer by itself, kept as a plain list of the text's characters.
type model struct {
	peer, peers int
	made        int
	chars       []rune
	clocks      []int // of the characters' insertions
}

func (m *model) seen() []int {
	seen := make([]int, m.peers)
	seen[m.peer] = m.made
	return seen
}

func (m *model) insert(at int, r rune) (string, api.Errno) {
	switch {
	case at < 0 || at > len(m.chars):
		return "", api.ErrPlace
	case r < 0 || r >= 55296 && r <= 57343 || r > 1114111:
		return "", api.ErrRune
	case m.made == api.MaxOps:
		return "", api.ErrFull
	}
	behindClock, behindPeer := 0, 0
	if at > 0 {
		behindClock, behindPeer = m.clocks[at-1], m.peer
	}
	next := m.made + 1
	s := packet(1, byte(m.peer), uint32(next), uint32(next), m.seen(), uint32(behindClock), byte(behindPeer), r)
	m.made = next
	m.chars = slices.Insert(m.chars, at, r)
	m.clocks = slices.Insert(m.clocks, at, next)
	return s, api.OK
}

func (m *model) remove(at int) (string, api.Errno) {
	switch {
	case at < 0 || at >= len(m.chars):
		return "", api.ErrPlace
	case m.made == api.MaxOps:
		return "", api.ErrFull
	}
	next := m.made + 1
	s := packet(2, byte(m.peer), uint32(next), uint32(next), m.seen(), uint32(m.clocks[at]), byte(m.peer))
	m.made = next
	m.chars = slices.Delete(m.chars, at, at+1)
	m.clocks = slices.Delete(m.clocks, at, at+1)
	return s, api.OK
}

func drawRune(r *rand.Rand) rune {
	edges := []rune{-1, 0, 55295, 55296, 57343, 57344, 1114111, 1114112}
	if r.Intn(4) == 0 {
		return edges[r.Intn(len(edges))]
	}
	return rune(r.Intn(1 << 17))
}

// TestDrawnCalls holds a peer against the model, over right and wrong calls, until it has long been full.
// A twin that is spared the wrong calls must answer the same: an error changes nothing, and no other peer matters.
func TestDrawnCalls(t *testing.T) {
	r := rand.New(rand.NewSource(1))
	for range 20 {
		peers := 1 + r.Intn(api.MaxPeers)
		m := &model{peer: r.Intn(peers), peers: peers}
		p, twin := newPeer(t, m.peer, peers), newPeer(t, m.peer, peers)
		for range 700 {
			at, char, insertion := r.Intn(len(m.chars)+4)-1, drawRune(r), r.Intn(5) < 3
			call, check := (*Peer).Delete, m.remove
			if insertion {
				call = func(p *Peer, at int) (string, api.Errno) { return p.Insert(at, char) }
				check = func(at int) (string, api.Errno) { return m.insert(at, char) }
			}
			want, wantErr := check(at)
			if got, e := call(p, at); got != want || e != wantErr {
				t.Fatalf("P5, P6: at %d, character %d, insertion %v: %q, %d, want %q, %d", at, char, insertion, got, e, want, wantErr)
			}
			if wantErr == api.OK {
				if got, e := call(twin, at); got != want || e != api.OK {
					t.Fatalf("P1, P2: the twin at %d: %q, %d, want %q", at, got, e, want)
				}
			}
			wantState(t, p, string(m.chars), m.seen()...)
		}
		wantState(t, twin, string(m.chars), m.seen()...)
		if m.made != api.MaxOps {
			t.Errorf("the draw made %d operations only", m.made)
		}
	}
}
