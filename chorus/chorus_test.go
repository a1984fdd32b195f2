package chorus

import (
	"math"
	"slices"
	"strconv"
	"testing"

	"chorus/api"
)

func TestNewRefuses(t *testing.T) {
	for _, c := range [][2]int{
		{0, 0}, {0, -1}, {-1, -1}, {-1, 0}, {0, api.MaxPeers + 1}, {api.MaxPeers, api.MaxPeers + 1},
		{-1, 1}, {1, 1}, {-1, api.MaxPeers}, {api.MaxPeers, api.MaxPeers}, {256, 8}, {0, 256}, {0, 257},
		{math.MinInt, 1}, {math.MaxInt, 1}, {0, math.MinInt}, {0, math.MaxInt}, {math.MaxInt, math.MaxInt},
	} {
		if p, e := New(c[0], c[1]); p != nil || e != api.ErrPeer {
			t.Errorf("P3: New(%d, %d) = %v, %d", c[0], c[1], p, e)
		}
	}
}

func TestNewIsEmpty(t *testing.T) {
	for peers := 1; peers <= api.MaxPeers; peers++ {
		for peer := range peers {
			p := newPeer(t, peer, peers)
			wantState(t, p, "", make([]int, peers)...)
			wantPacket(t, insert(t, p, 0, 'a'), packet(1, byte(peer), 1, 1, make([]int, peers), 0, 0, 'a'))
			known := make([]int, peers)
			known[peer] = 1
			wantState(t, p, "a", known...)
		}
	}
}

func TestNewSharesNothing(t *testing.T) {
	p, q := newPeer(t, 0, 2), newPeer(t, 0, 2)
	insert(t, p, 0, 'a')
	wantState(t, q, "", 0, 0)
	wantState(t, p, "a", 1, 0)
}

// The first of the document's examples, its sums reckoned by another program.
func TestExamplePackets(t *testing.T) {
	p := newPeer(t, 0, 3)
	wantPacket(t, insert(t, p, 0, 'a'), string([]byte{
		1, 0, 0, 0, 0, 1, 0, 0, 0, 1, 0, 0, 0, 0, 0, 0, 0, 0, 0, 0, 0, 0,
		0, 0, 0, 0, 0, 0, 0, 0, 97, 61, 246, 96, 161,
	}))
	wantPacket(t, insert(t, p, 1, 'b'), string([]byte{
		1, 0, 0, 0, 0, 2, 0, 0, 0, 2, 0, 0, 0, 1, 0, 0, 0, 0, 0, 0, 0, 0,
		0, 0, 0, 1, 0, 0, 0, 0, 98, 29, 145, 113, 158,
	}))
	wantState(t, p, "ab", 2, 0, 0)
}

func TestInsertAtEveryPlace(t *testing.T) {
	p := newPeer(t, 1, 2)
	wantPacket(t, insert(t, p, 0, 'b'), packet(1, 1, 1, 1, []int{0, 0}, 0, 0, 'b'))
	wantPacket(t, insert(t, p, 1, 'd'), packet(1, 1, 2, 2, []int{0, 1}, 1, 1, 'd'))
	wantPacket(t, insert(t, p, 0, 'a'), packet(1, 1, 3, 3, []int{0, 2}, 0, 0, 'a'))
	wantPacket(t, insert(t, p, 2, 'c'), packet(1, 1, 4, 4, []int{0, 3}, 1, 1, 'c'))
	wantPacket(t, insert(t, p, 4, 'e'), packet(1, 1, 5, 5, []int{0, 4}, 2, 1, 'e'))
	wantState(t, p, "abcde", 0, 5)
}

func TestInsertPassesTheDead(t *testing.T) {
	p := newPeer(t, 0, 1)
	insert(t, p, 0, 'a')
	insert(t, p, 1, 'b')
	insert(t, p, 2, 'c')
	wantPacket(t, remove(t, p, 1), packet(2, 0, 4, 4, []int{3}, 2, 0))
	wantPacket(t, insert(t, p, 1, 'x'), packet(1, 0, 5, 5, []int{4}, 1, 0, 'x'))
	wantPacket(t, remove(t, p, 0), packet(2, 0, 6, 6, []int{5}, 1, 0))
	wantPacket(t, insert(t, p, 0, 'y'), packet(1, 0, 7, 7, []int{6}, 0, 0, 'y'))
	wantState(t, p, "yxc", 7)
}

func TestInsertRefusesPlaces(t *testing.T) {
	p := newPeer(t, 0, 1)
	for size := range 3 {
		for _, at := range append([]int{size + 1, size + 2}, wrongPlaces...) {
			s, e := p.Insert(at, 'x')
			wantRefused(t, "P5: Insert("+strconv.Itoa(at)+", 'x')", s, e, api.ErrPlace)
		}
		insert(t, p, size, 'a')
	}
	remove(t, p, 0)
	s, e := p.Insert(3, 'x') // the dead one is no place
	wantRefused(t, "P5: Insert(3, 'x')", s, e, api.ErrPlace)
	wantState(t, p, "aa", 4)
}

// A character of several bytes is one place.
func TestPlacesAreCharacters(t *testing.T) {
	p := newPeer(t, 0, 1)
	insert(t, p, 0, 1114111)
	s, e := p.Insert(2, 'x')
	wantRefused(t, "P5: Insert(2, 'x')", s, e, api.ErrPlace)
	s, e = p.Delete(1)
	wantRefused(t, "P6: Delete(1)", s, e, api.ErrPlace)
	insert(t, p, 1, 'b')
	wantState(t, p, "\U0010ffffb", 2)
}

func TestInsertTakesEachCharacter(t *testing.T) {
	p := newPeer(t, 0, 1)
	text := ""
	for i, r := range []rune{0, 1, 127, 128, 55294, 55295, 57344, 57345, 65533, 65535, 65536, 1114110, 1114111} {
		wantPacket(t, insert(t, p, i, r), packet(1, 0, uint32(i+1), uint32(i+1), []int{i}, uint32(i), 0, r))
		text += string(r)
		wantState(t, p, text, i+1)
	}
}

func TestInsertRefusesRunes(t *testing.T) {
	p := newPeer(t, 0, 1)
	insert(t, p, 0, 'a')
	for _, r := range wrongRunes {
		for at := range 2 {
			s, e := p.Insert(at, r)
			wantRefused(t, "P5: Insert of "+strconv.Itoa(int(r)), s, e, api.ErrRune)
		}
	}
	wantState(t, p, "a", 1)
}

func TestDeleteAtEveryPlace(t *testing.T) {
	p := newPeer(t, 2, 3)
	for i, r := range "abcd" {
		insert(t, p, i, r)
	}
	wantPacket(t, remove(t, p, 3), packet(2, 2, 5, 5, []int{0, 0, 4}, 4, 2))
	wantState(t, p, "abc", 0, 0, 5)
	wantPacket(t, remove(t, p, 0), packet(2, 2, 6, 6, []int{0, 0, 5}, 1, 2))
	wantState(t, p, "bc", 0, 0, 6)
	wantPacket(t, remove(t, p, 1), packet(2, 2, 7, 7, []int{0, 0, 6}, 3, 2))
	wantPacket(t, remove(t, p, 0), packet(2, 2, 8, 8, []int{0, 0, 7}, 2, 2))
	wantState(t, p, "", 0, 0, 8)
}

func TestDeleteRefusesPlaces(t *testing.T) {
	p := newPeer(t, 0, 1)
	for size := range 3 {
		for _, at := range append([]int{size, size + 1}, wrongPlaces...) {
			s, e := p.Delete(at)
			wantRefused(t, "P6: Delete("+strconv.Itoa(at)+")", s, e, api.ErrPlace)
		}
		insert(t, p, size, 'a')
	}
	remove(t, p, 0)
	s, e := p.Delete(2) // the dead one is no character
	wantRefused(t, "P6: Delete(2)", s, e, api.ErrPlace)
	wantState(t, p, "aa", 4)
}

func TestMaxOps(t *testing.T) {
	for _, last := range []string{"insertion", "deletion"} {
		p := newPeer(t, 1, 2)
		for i := range api.MaxOps - 1 {
			insert(t, p, i, 'a')
		}
		seen := []int{0, api.MaxOps - 1}
		if last == "insertion" {
			wantPacket(t, insert(t, p, 0, 'z'), packet(1, 1, api.MaxOps, api.MaxOps, seen, 0, 0, 'z'))
		} else {
			wantPacket(t, remove(t, p, 0), packet(2, 1, api.MaxOps, api.MaxOps, seen, 1, 1))
		}
		text := p.Text()
		s, e := p.Insert(0, 'b')
		wantRefused(t, "P5: Insert behind MaxOps", s, e, api.ErrFull)
		s, e = p.Delete(0)
		wantRefused(t, "P6: Delete behind MaxOps", s, e, api.ErrFull)
		wantState(t, p, text, 0, api.MaxOps)
	}
}

// MaxOps bounds what the peer made, not what was delivered to it.
func TestMaxOpsIsOfThePeerItself(t *testing.T) {
	p := newPeer(t, 0, 2)
	for i := range api.MaxOps + 1 { // and what others made is not bounded by it
		receive(t, p, 1, packet(1, 1, uint32(i+1), uint32(i+1), []int{0, i}, 0, 0, 'a'))
	}
	wantPacket(t, insert(t, p, 0, 'b'), packet(1, 0, 1, api.MaxOps+2, []int{0, api.MaxOps + 1}, 0, 0, 'b'))
}

func TestClockEnds(t *testing.T) {
	p := newPeer(t, 0, 2)
	receive(t, p, 1, packet(1, 1, 1, api.MaxClock-2, []int{0, 0}, 0, 0, 'a'))
	wantPacket(t, remove(t, p, 0), packet(2, 0, 1, api.MaxClock-1, []int{0, 1}, api.MaxClock-2, 1))
	wantPacket(t, insert(t, p, 0, 'b'), packet(1, 0, 2, api.MaxClock, []int{1, 1}, 0, 0, 'b'))
	for range 2 { // an error changes the clock neither
		s, e := p.Insert(0, 'c')
		wantRefused(t, "P5: Insert at MaxClock", s, e, api.ErrClock)
		s, e = p.Delete(0)
		wantRefused(t, "P6: Delete at MaxClock", s, e, api.ErrClock)
	}
	wantState(t, p, "b", 2, 1)
	receive(t, p, 1, packet(2, 1, 2, 1, []int{2, 1}, api.MaxClock, 0)) // what is received still goes
	wantState(t, p, "", 2, 2)
}

// What other peers did is told by the packets that are made behind it.
func TestBehindOthersOperations(t *testing.T) {
	p := newPeer(t, 1, 3)
	insert(t, p, 0, 'x')
	receive(t, p, 1, packet(1, 0, 1, 1, []int{0, 0, 0}, 0, 0, 'a'))
	wantState(t, p, "xa", 1, 1, 0)
	receive(t, p, 1, packet(1, 0, 2, 2, []int{1, 0, 0}, 1, 0, 'b'))
	wantState(t, p, "xab", 2, 1, 0)
	wantPacket(t, insert(t, p, 1, 'y'), packet(1, 1, 2, 3, []int{2, 1, 0}, 1, 1, 'y'))
	wantPacket(t, remove(t, p, 2), packet(2, 1, 3, 4, []int{2, 2, 0}, 1, 0))
	receive(t, p, 1, packet(2, 2, 1, 1, []int{0, 2, 0}, 3, 1))
	wantState(t, p, "xb", 2, 3, 1)
	wantPacket(t, insert(t, p, 2, 'z'), packet(1, 1, 4, 5, []int{2, 3, 1}, 2, 0, 'z')) // a lesser clock sets none back
}

func TestKnownIsTheCallers(t *testing.T) {
	p := newPeer(t, 1, 3)
	insert(t, p, 0, 'a')
	spoil := func(l []int) {
		l = l[:cap(l)]
		for i := range l {
			l[i] = -1
		}
	}
	one, other := p.Known(), p.Known()
	spoil(one)
	if !slices.Equal(other, []int{0, 1, 0}) {
		t.Errorf("P2: two answers share memory: %v", other)
	}
	wantState(t, p, "a", 0, 1, 0)
	kept := p.Known()
	spoil(append(p.Known(), 7)) // appending may write into the spare room
	wantPacket(t, insert(t, p, 1, 'b'), packet(1, 1, 2, 2, []int{0, 1, 0}, 1, 1, 'b'))
	wantState(t, p, "ab", 0, 2, 0)
	if !slices.Equal(kept, []int{0, 1, 0}) {
		t.Errorf("P2: an answer changed behind its call: %v", kept)
	}
}

func TestListsHandedInStay(t *testing.T) {
	p := newPeer(t, 0, 2)
	insert(t, p, 0, 'a')
	known, packets := []int{0, 0, 7, 8}, []string{"", "x", "y", "z"}
	p.Rest(known[:2])
	p.Receive(packets[:2]...)
	if !slices.Equal(known, []int{0, 0, 7, 8}) || !slices.Equal(packets, []string{"", "x", "y", "z"}) {
		t.Errorf("P2: lists that were handed in are now %v, %v", known, packets)
	}
}

func TestNoCallPanics(t *testing.T) {
	nothing, _ := New(0, 0)
	for _, p := range []*Peer{newPeer(t, 0, 1), newPeer(t, api.MaxPeers-1, api.MaxPeers), nothing} {
		for _, at := range append([]int{0, 1}, wrongPlaces...) {
			for _, r := range append([]rune{0, 'a'}, wrongRunes...) {
				p.Insert(at, r)
			}
			p.Delete(at)
			p.Rest([]int{at})
			p.Rest(slices.Repeat([]int{at}, api.MaxPeers))
		}
		p.Rest(nil)
		p.Receive()
		p.Receive(nil...)
		p.Receive("", "\x00", string(make([]byte, 100)), packet(1, 0, 1, 1, []int{0}, 0, 0, 'a'))
		p.Text()
		p.Known()
	}
}

func TestNoPeerAnswersNothing(t *testing.T) {
	p, _ := New(1, 1)
	if text, known := p.Text(), p.Known(); text != "" || known != nil {
		t.Errorf("P1: no peer has %q, %v", text, known)
	}
	s, e := p.Insert(0, 'a')
	wantRefused(t, "P1: Insert of no peer", s, e, api.ErrPeer)
	s, e = p.Delete(0)
	wantRefused(t, "P1: Delete of no peer", s, e, api.ErrPeer)
	wantReceived(t, p, 0, api.ErrPeer, packet(1, 0, 1, 1, []int{0}, 0, 0, 'a'))
	wantNoRest(t, p, nil)
	wantNoRest(t, p, []int{0})
}

// Every choice of what is wrong, against the document's order of the errors.
func TestTheFirstErrorIsAnswered(t *testing.T) {
	for wrong := range 16 {
		place, char, full, clock := wrong&1 != 0, wrong&2 != 0, wrong&4 != 0, wrong&8 != 0
		p := newPeer(t, 0, 2)
		insert(t, p, 0, 'a')
		at, r, want := 0, 'b', api.OK
		if full {
			for range api.MaxOps - 1 {
				insert(t, p, 0, 'f')
			}
			want = api.ErrFull
		}
		if clock {
			receive(t, p, 1, packet(2, 1, 1, api.MaxClock, []int{0, 0}, 1, 1))
		}
		if clock && !full {
			want = api.ErrClock
		}
		wantDelete := want
		if char {
			r, want = 55296, api.ErrRune
		}
		if place {
			at, want, wantDelete = api.MaxOps+1, api.ErrPlace, api.ErrPlace
		}
		if s, e := p.Insert(at, r); e != want || (s == "") != (want != api.OK) {
			t.Errorf("P1, P5: wrong %04b: Insert = %q, %d, want %d", wrong, s, e, want)
		}
		if s, e := p.Delete(at); e != wantDelete || (s == "") != (wantDelete != api.OK) {
			t.Errorf("P1, P6: wrong %04b: Delete = %q, %d, want %d", wrong, s, e, wantDelete)
		}
	}
}
