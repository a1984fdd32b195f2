package chorus

import (
	"math"
	"slices"
	"testing"
	"unsafe"

	"chorus/api"
)

func wantRest(t *testing.T, p *Peer, known []int, want ...string) {
	t.Helper()
	given := slices.Clone(known)
	got, e := p.Rest(known)
	if !slices.Equal(got, want) || e != api.OK {
		t.Errorf("P10: Rest(%v) = %q, %d, want %q", known, got, e, want)
	}
	if !slices.Equal(known, given) {
		t.Errorf("P2: the list that was handed in was %v, and is now %v", given, known)
	}
}

func wantNoRest(t *testing.T, p *Peer, known []int) {
	t.Helper()
	if got, e := p.Rest(known); got != nil || e != api.ErrPeer {
		t.Errorf("P10: Rest(%v) = %q, %d, want nothing, %d", known, got, e, api.ErrPeer)
	}
}

// exampleGroup is the document's examples at their end: peer 0, the five packets in Rest's order.
func exampleGroup(t *testing.T) (*Peer, []string) {
	t.Helper()
	p, q := newPeer(t, 0, 3), newPeer(t, 1, 3)
	a, b, x := insert(t, p, 0, 'a'), insert(t, p, 1, 'b'), insert(t, q, 0, 'x')
	receive(t, q, 2, a, b)
	y := insert(t, q, 1, 'y')
	d := remove(t, q, 2)
	receive(t, p, 1, d, x)
	receive(t, p, 2, y)
	return p, []string{a, x, b, y, d}
}

// The document's fourth example, its packets written out by themselves.
func TestRestExample(t *testing.T) {
	p, packets := exampleGroup(t)
	wantRest(t, p, none, packets...)
	wantRest(t, p, none,
		packet(1, 0, 1, 1, none, 0, 0, 'a'),
		packet(1, 1, 1, 1, none, 0, 0, 'x'),
		packet(1, 0, 2, 2, []int{1, 0, 0}, 1, 0, 'b'),
		packet(1, 1, 2, 3, []int{2, 1, 0}, 1, 1, 'y'),
		packet(2, 1, 3, 4, []int{2, 2, 0}, 1, 0))
	wantState(t, p, "xyb", 2, 3, 0) // telling changes nothing
}

func TestRestOfWhatIsLacking(t *testing.T) {
	p, l := exampleGroup(t)
	a, x, b, y, d := l[0], l[1], l[2], l[3], l[4]
	for _, c := range []struct {
		known []int
		want  []string
	}{
		{[]int{0, 0, 0}, []string{a, x, b, y, d}},
		{[]int{1, 0, 0}, []string{x, b, y, d}},
		{[]int{2, 0, 0}, []string{x, y, d}},
		{[]int{0, 1, 0}, []string{a, b, y, d}},
		{[]int{0, 2, 0}, []string{a, b, d}},
		{[]int{0, 3, 0}, []string{a, b}},
		{[]int{1, 2, 0}, []string{b, d}},
		{[]int{2, 2, 0}, []string{d}},
		{[]int{2, 3, 0}, nil},
		{[]int{2, 3, 9}, nil}, // numbers above what was delivered
		{[]int{3, 4, 1}, nil},
		{[]int{3, 2, 1}, []string{d}},
		{[]int{0, math.MaxInt, math.MaxInt}, []string{a, b}},
		{[]int{math.MaxInt, 0, 1 << 32}, []string{x, y, d}},
		{[]int{1 << 32, 1<<32 + 1, 1 << 31}, nil}, // nor cut to a packet's four bytes
	} {
		wantRest(t, p, c.known, c.want...)
	}
}

func TestRestRefuses(t *testing.T) {
	p, packets := exampleGroup(t)
	for _, known := range [][]int{
		nil, {}, {0}, {0, 0}, {0, 0, 0, 0}, make([]int, 8), make([]int, 1000), {2, 3}, {2, 3, 0, 0},
		{-1, 0, 0}, {0, -1, 0}, {0, 0, -1}, {-1, -1, -1}, {math.MinInt, 0, 0}, {9, 9, math.MinInt},
		{9, -1 << 32, 9}, {-1}, {0, 0, 0, -1},
	} {
		wantNoRest(t, p, known)
	}
	wantState(t, p, "xyb", 2, 3, 0)
	wantRest(t, p, none, packets...)
	for peers := 1; peers <= api.MaxPeers; peers++ {
		p := newPeer(t, peers-1, peers)
		for n := range api.MaxPeers + 2 {
			if n == peers {
				wantRest(t, p, make([]int, n))
			} else {
				wantNoRest(t, p, make([]int, n))
			}
		}
	}
}

// The list's spare room is no part of it.
func TestRestOfAListWithSpareRoom(t *testing.T) {
	p, packets := exampleGroup(t)
	room := []int{1, 0, 0, -1, 7}
	wantRest(t, p, room[:3], packets[1:]...)
	wantNoRest(t, p, room[:2])
	if !slices.Equal(room, []int{1, 0, 0, -1, 7}) {
		t.Errorf("P2: the list with its spare room is now %v", room)
	}
	wantRest(t, p, room[:3:3], packets[1:]...)
}

func TestRestOfAGroupOfOne(t *testing.T) {
	p := newPeer(t, 0, 1)
	wantRest(t, p, []int{0})
	a, b := insert(t, p, 0, 'a'), insert(t, p, 0, 'b')
	d := remove(t, p, 1)
	wantRest(t, p, []int{0}, a, b, d)
	wantRest(t, p, []int{2}, d)
	wantRest(t, p, []int{3})
	wantRest(t, p, []int{math.MaxInt})
}

// A refused call made nothing that could be told.
func TestRestOfRefusedCalls(t *testing.T) {
	p := newPeer(t, 0, 2)
	a := insert(t, p, 0, 'a')
	p.Insert(2, 'x')
	p.Insert(0, -1)
	p.Delete(1)
	p.Receive("", packet(1, 0, 2, 2, []int{1, 0}, 0, 0, 'x'))
	p.Receive(packet(1, 0, 2, 2, []int{1, 0}, 0, 0, 'x'))
	wantRest(t, p, []int{0, 0}, a)
}

// Of the same clock, all peers in their order, however they came.
func TestRestOfTheSameClock(t *testing.T) {
	group := make([]int, api.MaxPeers)
	var packets []string
	for peer := range api.MaxPeers - 1 {
		packets = append(packets, packet(1, byte(peer), 1, 1, group, 0, 0, rune('a'+peer)))
	}
	for range packets {
		packets = append(packets[1:], packets[0])
		p := newPeer(t, api.MaxPeers-1, api.MaxPeers)
		own := insert(t, p, 0, 'z')
		receive(t, p, len(packets), packets...)
		want := slices.Clone(packets)
		slices.SortFunc(want, func(a, b string) int { return int(a[1]) - int(b[1]) })
		wantRest(t, p, group, append(want, own)...)
	}
}

// A peer's next one is by its number: it hides those behind it, be their clocks ever so low.
func TestRestWhereClocksGoBack(t *testing.T) {
	p := newPeer(t, 2, 3)
	a := packet(1, 0, 1, 9, none, 0, 0, 'a')
	b := packet(1, 0, 2, 2, []int{1, 0, 0}, 0, 0, 'b')
	c := packet(1, 1, 1, 5, none, 0, 0, 'c')
	d := packet(1, 1, 2, 9, []int{0, 1, 0}, 0, 0, 'd')
	e := packet(2, 1, 3, 9, []int{0, 2, 0}, 5, 1)
	f := packet(2, 1, 4, 1, []int{0, 3, 0}, 5, 1)
	receive(t, p, 6, a, b, c, d, e, f)
	wantRest(t, p, none, c, a, b, d, e, f)
	wantRest(t, p, []int{1, 0, 0}, b, c, d, e, f)
	wantRest(t, p, []int{0, 3, 0}, f, a, b)
	g := insert(t, p, 0, 'g')
	wantRest(t, p, []int{1, 2, 0}, b, e, f, g)
}

func TestRestOfTheGreatestClocks(t *testing.T) {
	p := newPeer(t, 0, 3)
	last := packet(1, 1, 1, api.MaxClock, none, 0, 0, 'a')
	middle := packet(1, 2, 1, 1<<31, none, 0, 0, 'b')
	first := insert(t, p, 0, 'c')
	receive(t, p, 2, last, middle)
	wantRest(t, p, none, first, middle, last)
}

// What waits was not delivered.
func TestRestOfWhatWaits(t *testing.T) {
	p := newPeer(t, 0, 3)
	receive(t, p, 0, later(3), later(2), packet(1, 2, 1, 1, []int{1, 0, 0}, 0, 0, 'z'))
	wantRest(t, p, none)
	own := insert(t, p, 0, 'x')
	wantRest(t, p, none, own, packet(1, 2, 1, 1, []int{1, 0, 0}, 0, 0, 'z'))
	receive(t, p, 3, later(1))
	wantRest(t, p, []int{1, 0, 1}, later(1), later(2), later(3))
	for n := range api.MaxHeld {
		receive(t, p, 0, later(n+5))
	}
	wantReceived(t, p, 0, api.ErrFull, later(99))
	wantRest(t, p, []int{1, 0, 1}, later(1), later(2), later(3))
	receive(t, p, api.MaxHeld+1, later(4))
	wantRest(t, p, []int{1, api.MaxHeld + 3, 1}, later(api.MaxHeld+4))
}

// Each kind of right packet, the strange ones too, is told byte for byte as it came.
func TestRestTellsTheBytesThatCame(t *testing.T) {
	packets := []string{
		packet(1, 1, 1, 1, none, 0, 0, 0),
		packet(1, 1, 2, 2, []int{0, 1, 0}, 1, 1, 55295),
		packet(1, 1, 3, 2, []int{0, 2, 0}, 1, 1, 57344),                // of a name that the row has
		packet(1, 1, 4, 3, []int{0, 3, 0}, 1<<32-1, 2, 1114111),        // behind what is not there
		packet(1, 1, 5, 5, []int{0, 4, 0}, 5, 1, 'x'),                  // behind itself
		packet(2, 1, 6, 6, []int{0, 5, 0}, 1, 1),                       // a deletion
		packet(2, 1, 7, 7, []int{0, 6, 0}, 1, 1),                       // once more
		packet(2, 1, 8, 0x01020304, []int{0, 7, 0}, 0x05060708, 0),     // of what is not there
		packet(1, 1, 9, 0x0a0b0c0d, []int{0, 8, 0}, 0, 0, 0x000e0f),    // bytes that are all unlike
		packet(1, 1, 10, api.MaxClock, []int{0, 9, 0}, 0, 0, 0x10ffff), // the greatest
	}
	p := newPeer(t, 0, 3)
	receive(t, p, len(packets), packets...)
	wantRest(t, p, none, packets...)
}

// Of two packets of one peer and number, the one that was delivered is told.
func TestRestOfDoubles(t *testing.T) {
	p := newPeer(t, 0, 3)
	receive(t, p, 1, later(1), later(1), packet(2, 1, 1, 9, none, 1, 1))
	receive(t, p, 0, later(3), packet(2, 1, 3, 9, []int{0, 2, 0}, 1, 1))
	receive(t, p, 2, later(2))
	own := insert(t, p, 0, 'x')
	receive(t, p, 0, own, packet(1, 0, 1, 9, none, 0, 0, 'y'))
	wantRest(t, p, none, later(1), later(2), later(3), own)
}

func TestRestIsTheCallers(t *testing.T) {
	p, packets := exampleGroup(t)
	one, _ := p.Rest(none)
	other, _ := p.Rest(none)
	one = one[:cap(one)]
	for i := range one {
		one[i] = "over"
	}
	if !slices.Equal(other, packets) {
		t.Errorf("P2: two answers share memory: %q", other)
	}
	wantRest(t, p, none, packets...)
	spare := append(other, "spare")
	z := insert(t, p, 0, 'z')
	wantRest(t, p, none, append(slices.Clone(packets), z)...)
	if !slices.Equal(spare[:5], packets) || spare[5] != "spare" {
		t.Errorf("P2: an answer changed behind its call: %q", spare)
	}
}

// Neither a text that was handed in nor one that was answered is told again as the same memory.
func TestRestIsNewMemory(t *testing.T) {
	p := newPeer(t, 0, 3)
	given := later(1)
	receive(t, p, 1, given)
	made := insert(t, p, 0, 'x')
	one, _ := p.Rest(none)
	other, _ := p.Rest(none)
	if !slices.Equal(one, []string{given, made}) || !slices.Equal(other, one) {
		t.Fatalf("P10: Rest = %q, %q", one, other)
	}
	met := map[*byte]int{}
	for _, s := range slices.Concat([]string{given, made}, one, other) {
		met[unsafe.StringData(s)]++
	}
	if len(met) != 6 {
		t.Errorf("P2: of six texts %d are memory of their own", len(met))
	}
}

// What Rest tells, in its order, each delivers at once: none waits, so none can be refused for want of room.
func TestRestIsDeliveredAtOnce(t *testing.T) {
	p, q := newPeer(t, 0, 3), newPeer(t, 1, 3)
	for i := range 3 * api.MaxHeld { // each builds on the other's last one
		s := insert(t, p, i, 'p')
		receive(t, q, 1, s)
		receive(t, p, 1, insert(t, q, 0, 'q'))
		receive(t, p, 1, remove(t, q, 0))
	}
	fresh := newPeer(t, 2, 3)
	told, e := q.Rest(fresh.Known())
	if len(told) != 9*api.MaxHeld || e != api.OK {
		t.Fatalf("P10: Rest tells %d, %d", len(told), e)
	}
	for _, s := range told {
		receive(t, fresh, 1, s)
	}
	wantState(t, fresh, p.Text(), p.Known()...)
	wantRest(t, fresh, p.Known())
	wantRest(t, fresh, none, told...)
}

func TestRestOfAFullPeer(t *testing.T) {
	p, q := newPeer(t, 0, 2), newPeer(t, 1, 2)
	var made []string
	for i := range api.MaxOps {
		made = append(made, insert(t, p, i/2, 'a'))
	}
	p.Insert(0, 'x')
	wantRest(t, p, []int{0, 0}, made...)
	wantRest(t, p, []int{api.MaxOps - 1, 0}, made[api.MaxOps-1])
	wantRest(t, p, []int{api.MaxOps, 0})
	receive(t, q, api.MaxOps, made...)
	wantRest(t, q, []int{0, 0}, made...)
}
