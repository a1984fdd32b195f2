package chorus

import (
	"slices"
	"strings"
	"testing"

	"chorus/api"
)

// none is what a group of three has seen at its start.
var none = []int{0, 0, 0}

// later is the insertion number n of a peer 1 of three, which goes at the beginning and has seen no other peer's.
func later(n int) string {
	return packet(1, 1, uint32(n), uint32(n), []int{0, n - 1, 0}, 0, 0, rune('a'+n-1))
}

// The document's second and third example.
func TestReceiveExamples(t *testing.T) {
	p, q := newPeer(t, 0, 3), newPeer(t, 1, 3)
	a, b := insert(t, p, 0, 'a'), insert(t, p, 1, 'b')
	receive(t, q, 0, b)
	x := insert(t, q, 0, 'x')
	wantPacket(t, x, packet(1, 1, 1, 1, none, 0, 0, 'x'))
	wantState(t, q, "x", 0, 1, 0)
	receive(t, q, 2, a)
	wantState(t, q, "xab", 2, 1, 0)
	receive(t, p, 1, x)
	wantState(t, p, "xab", 2, 1, 0)
	y := insert(t, q, 1, 'y')
	wantPacket(t, y, packet(1, 1, 2, 3, []int{2, 1, 0}, 1, 1, 'y'))
	d := remove(t, q, 2)
	wantPacket(t, d, packet(2, 1, 3, 4, []int{2, 2, 0}, 1, 0))
	receive(t, p, 0, d)
	wantState(t, p, "xab", 2, 1, 0)
	receive(t, p, 2, y)
	wantState(t, p, "xyb", 2, 3, 0)
}

// However the examples' five packets come, with or without doubles, the text is the same.
func TestReceiveInEveryOrder(t *testing.T) {
	packets := []string{
		packet(1, 0, 1, 1, none, 0, 0, 'a'),
		packet(1, 0, 2, 2, []int{1, 0, 0}, 1, 0, 'b'),
		packet(1, 1, 1, 1, none, 0, 0, 'x'),
		packet(1, 1, 2, 3, []int{2, 1, 0}, 1, 1, 'y'),
		packet(2, 1, 3, 4, []int{2, 2, 0}, 1, 0),
	}
	orders := 0
	var each func(ahead, left []string)
	each = func(ahead, left []string) {
		if len(left) == 0 {
			orders++
			wantOneByOne(t, ahead)
			receive(t, newPeer(t, 2, 3), len(ahead), ahead...)
			receive(t, newPeer(t, 2, 3), len(ahead), slices.Concat(ahead, ahead)...)
			return
		}
		for i, s := range left {
			each(append(slices.Clone(ahead), s), slices.Delete(slices.Clone(left), i, i+1))
		}
	}
	each(nil, packets)
	if orders != 120 {
		t.Errorf("%d orders, want 120", orders)
	}
}

func wantOneByOne(t *testing.T, packets []string) {
	t.Helper()
	p := newPeer(t, 2, 3)
	delivered := 0
	for _, s := range packets {
		n, e := p.Receive(s)
		again, e2 := p.Receive(s)
		if e != api.OK || again != 0 || e2 != api.OK {
			t.Errorf("P7: Receive = %d, %d, and once more %d, %d", n, e, again, e2)
		}
		delivered += n
	}
	if delivered != len(packets) {
		t.Errorf("P9: %d were delivered, want %d", delivered, len(packets))
	}
	wantState(t, p, "xyb", 2, 3, 0)
}

func TestReceiveOfNothing(t *testing.T) {
	p := newPeer(t, 0, 3)
	receive(t, p, 0)
	receive(t, p, 0, nil...)
	receive(t, p, 0, []string{}...)
	wantState(t, p, "", 0, 0, 0)
}

func TestReceiveOfDoubles(t *testing.T) {
	p := newPeer(t, 0, 3)
	receive(t, p, 1, later(1), later(1))
	receive(t, p, 0, later(1))
	receive(t, p, 0, packet(2, 1, 1, 9, none, 1, 1)) // another operation of a number that was delivered
	wantState(t, p, "a", 0, 1, 0)
	receive(t, p, 0, later(3), later(3))
	receive(t, p, 0, packet(2, 1, 3, 9, []int{0, 2, 0}, 1, 1)) // of a number that waits: the first one stays
	receive(t, p, 2, later(2))
	wantState(t, p, "cba", 0, 3, 0)
	wantPacket(t, insert(t, p, 0, 'x'), packet(1, 0, 1, 4, []int{0, 3, 0}, 0, 0, 'x')) // and no clock came of the others
}

// One that could be delivered at once does nothing, if another of its peer and number waits.
func TestReceiveWhileTheSameNumberWaits(t *testing.T) {
	p := newPeer(t, 0, 3)
	receive(t, p, 0, packet(1, 1, 1, 1, []int{0, 0, 1}, 0, 0, 'w'))
	receive(t, p, 0, later(1))
	wantState(t, p, "", 0, 0, 0)
	receive(t, p, 2, packet(1, 2, 1, 1, none, 0, 0, 'v'))
	wantState(t, p, "vw", 0, 1, 1)
}

func TestReceiveWaitsForTheSamePeer(t *testing.T) {
	p := newPeer(t, 0, 3)
	receive(t, p, 0, later(3))
	receive(t, p, 0, later(2))
	wantState(t, p, "", 0, 0, 0)
	wantPacket(t, insert(t, p, 0, 'x'), packet(1, 0, 1, 1, none, 0, 0, 'x')) // what waits sets no clock
	receive(t, p, 3, later(1))
	wantState(t, p, "cbax", 1, 3, 0)
}

func TestReceiveWaitsForAnotherPeer(t *testing.T) {
	for _, target := range [][2]int{{0, 0}, {1, 1}} { // behind its element or not, what it says it saw counts
		p := newPeer(t, 0, 3)
		receive(t, p, 0, packet(1, 2, 1, 5, []int{0, 2, 0}, uint32(target[0]), byte(target[1]), 'z'))
		receive(t, p, 1, later(1))
		wantState(t, p, "a", 0, 1, 0)
		receive(t, p, 2, later(2))
		want := []string{"zba", "baz"}[target[0]]
		wantState(t, p, want, 0, 2, 1)
	}
}

// More may have been delivered of another peer than the operation saw.
func TestReceiveOfOneThatSawLess(t *testing.T) {
	p := newPeer(t, 0, 3)
	receive(t, p, 2, later(1), later(2))
	insert(t, p, 0, 'x')
	receive(t, p, 1, packet(1, 2, 1, 1, none, 0, 0, 'z'))
	wantState(t, p, "xbza", 1, 2, 1)
}

func TestReceiveWaitsForAnOwnOperation(t *testing.T) {
	p := newPeer(t, 0, 2)
	receive(t, p, 0, packet(1, 1, 2, 8, []int{1, 1}, 1, 0, 'c'), packet(1, 1, 1, 7, []int{1, 0}, 1, 0, 'b'))
	receive(t, p, 0, packet(1, 1, 3, 9, []int{2, 2}, 0, 0, 'd'))
	wantState(t, p, "", 0, 0)
	s, e := p.Insert(1, 'x')
	wantRefused(t, "P5: Insert(1, 'x')", s, e, api.ErrPlace)
	wantState(t, p, "", 0, 0)
	wantPacket(t, insert(t, p, 0, 'a'), packet(1, 0, 1, 1, []int{0, 0}, 0, 0, 'a'))
	wantState(t, p, "acb", 1, 2)
	wantPacket(t, remove(t, p, 1), packet(2, 0, 2, 9, []int{1, 2}, 8, 1))
	wantState(t, p, "dab", 2, 3)
	receive(t, p, 0, packet(2, 1, 4, api.MaxClock, []int{3, 3}, 1, 0))
	wantPacket(t, insert(t, p, 3, 'e'), packet(1, 0, 3, 10, []int{2, 3}, 7, 1, 'e'))
	wantState(t, p, "dbe", 3, 4)
	s, e = p.Insert(0, 'x')
	wantRefused(t, "P5: Insert at MaxClock", s, e, api.ErrClock)
}

// What waits goes by the least peer: an insertion is lost, if it goes ahead of the one that it names.
func TestWhatWaitsGoesByTheLeastPeer(t *testing.T) {
	first := packet(1, 0, 1, 1, []int{0, 0, 0, 0}, 0, 0, 'f')
	one := packet(1, 1, 1, 5, []int{1, 0, 0, 0}, 0, 0, 'b')
	behindOne := packet(1, 2, 1, 6, []int{1, 0, 0, 0}, 5, 1, 'c')
	two := packet(1, 2, 1, 5, []int{1, 0, 0, 0}, 0, 0, 'b')
	behindTwo := packet(1, 1, 1, 6, []int{1, 0, 0, 0}, 5, 2, 'c')
	for _, c := range []struct {
		want    string
		packets []string
	}{
		{"bcf", []string{one, behindOne}}, {"bcf", []string{behindOne, one}},
		{"bf", []string{two, behindTwo}}, {"bf", []string{behindTwo, two}},
	} {
		p := newPeer(t, 3, 4)
		receive(t, p, 0, c.packets...)
		receive(t, p, 3, first)
		wantState(t, p, c.want, 1, 1, 1, 0)

		own := newPeer(t, 0, 4) // behind an operation of its own likewise
		receive(t, own, 0, c.packets...)
		insert(t, own, 0, 'f')
		wantState(t, own, c.want, 1, 1, 1, 0)
	}
}

// Behind peer 2's, peer 1's can be delivered: it goes ahead of peer 3's, which could be all along.
func TestWhatWaitsIsGoneThroughFromTheBeginning(t *testing.T) {
	packets := []string{
		packet(1, 3, 1, 7, []int{1, 0, 0, 0}, 6, 1, 'd'), // behind peer 1's
		packet(1, 2, 1, 5, []int{1, 0, 0, 0}, 0, 0, 'b'),
		packet(1, 1, 1, 6, []int{1, 0, 1, 0}, 0, 0, 'c'),
	}
	for range packets {
		packets = append(packets[1:], packets[0])
		p := newPeer(t, 0, 4)
		receive(t, p, 0, packets...)
		insert(t, p, 0, 'a')
		wantState(t, p, "cdba", 1, 1, 1, 1)
	}
}

// What is received goes at once, ahead of all that waits.
func TestWhatIsReceivedGoesAhead(t *testing.T) {
	p := newPeer(t, 0, 3)
	receive(t, p, 0, packet(1, 1, 1, 9, []int{0, 0, 1}, 5, 2, 'b'))
	receive(t, p, 2, packet(1, 2, 1, 5, none, 0, 0, 'a'))
	wantState(t, p, "ab", 0, 1, 1)
}

func TestMaxHeld(t *testing.T) {
	p := newPeer(t, 0, 3)
	for n := api.MaxHeld; n > 1; n-- {
		receive(t, p, 0, later(n))
	}
	other := packet(1, 2, 2, 60, []int{0, 0, 1}, 0, 0, 'Z') // the last that has room, of another peer
	receive(t, p, 0, other)
	wantReceived(t, p, 0, api.ErrFull, later(api.MaxHeld+1))
	wantReceived(t, p, 0, api.ErrFull, packet(1, 2, 3, 3, []int{0, 0, 2}, 0, 0, 'Y'))
	wantReceived(t, p, 0, api.ErrPacket, "")
	receive(t, p, 0, later(2), later(api.MaxHeld), other) // those that wait already
	wantReceived(t, p, 0, api.ErrFull, later(2), later(api.MaxHeld+1), later(1))
	wantState(t, p, "", 0, 0, 0)
	receive(t, p, 2, packet(1, 2, 1, 50, none, 0, 0, 'A')) // what need not wait needs no room
	wantState(t, p, "ZA", 0, 0, 2)
	receive(t, p, 0, later(api.MaxHeld+1)) // there is room again, for one
	wantReceived(t, p, 0, api.ErrFull, later(api.MaxHeld+2))
	receive(t, p, api.MaxHeld+1, later(1))
	wantState(t, p, "ZAqponmlkjihgfedcba", 0, api.MaxHeld+1, 2)
	for n := 2 * api.MaxHeld; n > api.MaxHeld; n-- { // and now for all
		receive(t, p, 0, packet(2, 2, uint32(n), 1, []int{0, 0, n - 1}, 60, 2))
	}
	wantReceived(t, p, 1, api.ErrFull, later(api.MaxHeld+2), packet(2, 2, 99, 1, []int{0, 0, 98}, 60, 2), later(api.MaxHeld+3))
	wantState(t, p, "ZArqponmlkjihgfedcba", 0, api.MaxHeld+2, 2)
}

func TestMaxHeldBehindAnOwnOperation(t *testing.T) {
	p := newPeer(t, 0, 2)
	for i := range api.MaxHeld {
		receive(t, p, 0, packet(1, 1, uint32(i+1), uint32(i+1), []int{1, i}, 0, 0, rune('a'+i)))
	}
	more := packet(1, 1, api.MaxHeld+1, api.MaxHeld+1, []int{1, api.MaxHeld}, 0, 0, 'z')
	wantReceived(t, p, 0, api.ErrFull, more)
	insert(t, p, 0, 'A')
	wantState(t, p, "ponmlkjihgfedcbaA", 1, api.MaxHeld)
	receive(t, p, 1, more)
	receive(t, p, 0, packet(1, 1, 99, 1, []int{1, 98}, 0, 0, 'y'))
}

// Bytes that are no packet, in a group of three, each with the right sum but for those of which the sum is told.
func wrongPackets() map[string]string {
	good := later(1)
	return map[string]string{
		"empty":                        "",
		"one byte":                     "\x01",
		"without the last":             good[:len(good)-1],
		"without the first":            good[1:],
		"one too many":                 good + "\x00",
		"twice":                        good + good,
		"much too long":                strings.Repeat("\x01", 1<<20),
		"a wrong sum":                  good[:len(good)-1] + string([]byte{good[len(good)-1] + 1}),
		"a sum's first byte":           good[:len(good)-4] + string([]byte{good[len(good)-4] ^ 0x80}) + good[len(good)-3:],
		"no sum":                       good[:len(good)-4] + "\x00\x00\x00\x00",
		"a spoilt character":           good[:len(good)-5] + "z" + good[len(good)-4:],
		"kind 0":                       packet(0, 1, 1, 1, none, 0, 0, 'a'),
		"kind 3":                       packet(3, 1, 1, 1, none, 0, 0, 'a'),
		"kind 3, short":                packet(3, 1, 1, 1, none, 1, 1),
		"kind 255":                     packet(255, 1, 1, 1, none, 1, 1),
		"peer 3":                       packet(1, 3, 1, 1, none, 0, 0, 'a'),
		"peer 255":                     packet(1, 255, 1, 1, none, 0, 0, 'a'),
		"number 0":                     packet(1, 1, 0, 1, none, 0, 0, 'a'),
		"number 0 behind the last":     packet(1, 1, 0, 1, []int{0, -1, 0}, 0, 0, 'a'),
		"clock 0":                      packet(1, 1, 1, 0, none, 0, 0, 'a'),
		"clock 0 of a deletion":        packet(2, 1, 1, 0, none, 1, 1),
		"too many of its own":          packet(1, 1, 1, 1, []int{0, 1, 0}, 0, 0, 'a'),
		"too few of its own":           packet(1, 1, 2, 1, none, 0, 0, 'a'),
		"its own at another's place":   packet(1, 1, 2, 1, []int{1, 0, 1}, 0, 0, 'a'),
		"a name of clock 0":            packet(1, 1, 1, 1, none, 0, 1, 'a'),
		"a name of clock 0, peer 3":    packet(1, 1, 1, 1, none, 0, 3, 'a'),
		"a name of peer 3":             packet(1, 1, 1, 1, none, 1, 3, 'a'),
		"a name of peer 255":           packet(1, 1, 1, 1, none, 1, 255, 'a'),
		"55296":                        packet(1, 1, 1, 1, none, 0, 0, 55296),
		"57343":                        packet(1, 1, 1, 1, none, 0, 0, 57343),
		"1114112":                      packet(1, 1, 1, 1, none, 0, 0, 1114112),
		"2^31":                         packet(1, 1, 1, 1, none, 0, 0, -1<<31),
		"2^32 - 1":                     packet(1, 1, 1, 1, none, 0, 0, -1),
		"an insertion of no character": packet(1, 1, 1, 1, none, 0, 0),
		"two characters":               packet(1, 1, 1, 1, none, 0, 0, 'a', 'b'),
		"a deletion of a character":    packet(2, 1, 1, 1, none, 1, 1, 'a'),
		"a deletion of the beginning":  packet(2, 1, 1, 1, none, 0, 0),
		"a deletion of clock 0":        packet(2, 1, 1, 1, none, 0, 1),
		"a deletion of peer 3":         packet(2, 1, 1, 1, none, 1, 3),
		"a group of two":               packet(1, 1, 1, 1, none[:2], 0, 0, 'a'),
		"a group of four":              packet(1, 1, 1, 1, []int{0, 0, 0, 0}, 0, 0, 'a'),
		"a deletion of a group of two": packet(2, 1, 1, 1, none[:2], 1, 1),
		"a deletion of four":           packet(2, 1, 1, 1, []int{0, 0, 0, 0}, 1, 1), // as long as an insertion of three
		"of the peer itself":           packet(1, 0, 1, 1, none, 0, 0, 'a'),
		"of the peer itself, later":    packet(1, 0, 2, 1, []int{1, 0, 0}, 0, 0, 'a'),
		"a deletion of the peer's own": packet(2, 0, 1, 1, none, 1, 1),
	}
}

func TestReceiveRefuses(t *testing.T) {
	for what, s := range wrongPackets() {
		p := newPeer(t, 0, 3)
		if n, e := p.Receive(s); n != 0 || e != api.ErrPacket {
			t.Errorf("P7: %s: Receive = %d, %d", what, n, e)
		}
		wantState(t, p, "", 0, 0, 0)
		if n, e := p.Receive(later(3), later(1), s, later(2)); n != 1 || e != api.ErrPacket {
			t.Errorf("P7: %s among others: Receive = %d, %d", what, n, e)
		}
		wantState(t, p, "a", 0, 1, 0) // what stood ahead is done, what stood behind is not
		receive(t, p, 2, later(2))
		wantPacket(t, insert(t, p, 0, 'x'), packet(1, 0, 1, 4, []int{0, 3, 0}, 0, 0, 'x'))
		wantState(t, p, "xcba", 1, 3, 0)
	}
}

func TestReceiveOfItsOwn(t *testing.T) {
	p := newPeer(t, 0, 3)
	a := insert(t, p, 0, 'a')
	d := remove(t, p, 0)
	receive(t, p, 0, a, d, d, a)
	receive(t, p, 0, packet(1, 0, 2, 9, []int{1, 0, 0}, 0, 0, 'x')) // its number was made, whatever it says
	wantReceived(t, p, 0, api.ErrPacket, packet(1, 0, 3, 3, []int{2, 0, 0}, 0, 0, 'c'))
	wantReceived(t, p, 0, api.ErrPacket, packet(1, 0, 1<<32-1, 3, []int{1<<32 - 2, 0, 0}, 0, 0, 'c'))
	wantReceived(t, p, 0, api.ErrPacket, a, packet(1, 0, 1, 1, none, 0, 3, 'a')) // nor is it right by that
	wantState(t, p, "", 2, 0, 0)
	wantPacket(t, insert(t, p, 0, 'c'), packet(1, 0, 3, 3, []int{2, 0, 0}, 0, 0, 'c'))
	receive(t, p, 0, packet(1, 0, 3, 3, []int{2, 0, 0}, 0, 0, 'c'))
	wantState(t, p, "c", 3, 0, 0)
}

func TestReceiveAlone(t *testing.T) {
	p := newPeer(t, 0, 1)
	a := insert(t, p, 0, 'a')
	receive(t, p, 0, a)
	wantReceived(t, p, 0, api.ErrPacket, packet(1, 0, 2, 2, []int{1}, 0, 0, 'b'))
	wantState(t, p, "a", 1)
}

// The count is of all peers and of the whole call, an error behind it or not.
func TestReceiveCounts(t *testing.T) {
	p := newPeer(t, 0, 3)
	receive(t, p, 0, later(2), packet(1, 2, 1, 5, []int{0, 2, 0}, 0, 0, 'z'))
	wantReceived(t, p, 4, api.ErrPacket, later(1), later(1), later(3), "", later(4))
	wantState(t, p, "zcba", 0, 3, 1)
	receive(t, p, 2, later(5), later(4))
}

// An operation that changes no row is delivered all the same: it counts, and sets the clock.
func TestDeliveriesThatChangeNoRow(t *testing.T) {
	p := newPeer(t, 0, 3)
	receive(t, p, 1, packet(1, 1, 1, 1, none, 0, 0, 'a'))
	for i, s := range []string{
		packet(1, 1, 2, 20, []int{0, 1, 0}, 1, 2, 'x'),   // behind what the row has not
		packet(1, 1, 3, 21, []int{0, 2, 0}, 21, 1, 'x'),  // behind itself
		packet(1, 1, 4, 1, []int{0, 3, 0}, 0, 0, 'x'),    // of a name that the row has
		packet(1, 1, 5, 1, []int{0, 4, 0}, 9, 2, 'x'),    // both
		packet(2, 1, 6, 22, []int{0, 5, 0}, 20, 1),       // of what was not put in
		packet(2, 1, 7, 23, []int{0, 6, 0}, 1<<32-1, 0),  // of what is not there
		packet(1, 1, 8, 24, []int{0, 7, 0}, 20, 1, 'x'),  // behind what was not put in
		packet(2, 1, 9, 30, []int{0, 8, 0}, 30, 1),       // of its own name
		packet(1, 1, 10, 10, []int{0, 9, 0}, 30, 1, 'x'), // behind a deletion's name
	} {
		receive(t, p, 1, s)
		wantState(t, p, "a", 0, i+2, 0)
	}
	wantPacket(t, insert(t, p, 1, 'b'), packet(1, 0, 1, 31, []int{0, 10, 0}, 1, 1, 'b'))
	wantState(t, p, "ab", 1, 10, 0)
}

func TestDeletionOfTheDead(t *testing.T) {
	p := newPeer(t, 0, 3)
	receive(t, p, 1, packet(1, 1, 1, 1, none, 0, 0, 'a'))
	receive(t, p, 2, packet(2, 1, 2, 2, []int{0, 1, 0}, 1, 1), packet(2, 2, 1, 9, []int{0, 1, 0}, 1, 1))
	wantState(t, p, "", 0, 2, 1)
	receive(t, p, 1, packet(1, 1, 3, 1, []int{0, 2, 0}, 0, 0, 'x')) // a dead one has its name still
	wantState(t, p, "", 0, 3, 1)
	receive(t, p, 1, packet(1, 1, 4, 3, []int{0, 3, 0}, 1, 1, 'b')) // and others go behind it
	wantState(t, p, "b", 0, 4, 1)
	wantPacket(t, insert(t, p, 0, 'x'), packet(1, 0, 1, 10, []int{0, 4, 1}, 0, 0, 'x'))
}

func TestInsertionsGoBehindTheGreater(t *testing.T) {
	p := newPeer(t, 0, 3)
	receive(t, p, 1, packet(1, 1, 1, 5, none, 0, 0, 'a'))
	receive(t, p, 1, packet(1, 2, 1, 5, none, 0, 0, 'b')) // of the same clock, by its peer
	wantState(t, p, "ba", 0, 1, 1)
	receive(t, p, 1, packet(1, 1, 2, 3, []int{0, 1, 0}, 0, 0, 'c')) // a clock may go back
	wantState(t, p, "bac", 0, 2, 1)
	receive(t, p, 1, packet(1, 2, 2, 4, []int{0, 0, 1}, 5, 2, 'd'))
	wantState(t, p, "badc", 0, 2, 2)
	receive(t, p, 1, packet(1, 2, 3, 1<<32-1, []int{0, 0, 2}, 3, 1, 'e'))
	receive(t, p, 1, packet(1, 2, 4, 2, []int{0, 0, 3}, 5, 1, 'f')) // behind d, c and e, one behind the other
	wantState(t, p, "badcef", 0, 2, 4)
	receive(t, p, 1, packet(1, 2, 5, 4, []int{0, 0, 4}, 5, 1, 'g')) // of d's name
	receive(t, p, 1, packet(1, 1, 3, 4, []int{0, 2, 0}, 5, 1, 'g')) // behind d alone: c is not greater, though e is
	wantState(t, p, "badgcef", 0, 3, 5)
}

func TestMaxClockComesIn(t *testing.T) {
	for _, s := range []string{
		packet(1, 1, 1, api.MaxClock, none, 0, 0, 'a'),
		packet(1, 1, 1, api.MaxClock, none, 7, 1, 'x'),
		packet(2, 1, 1, api.MaxClock, none, 7, 1),
	} {
		p := newPeer(t, 0, 3)
		insert(t, p, 0, 'b')
		receive(t, p, 1, s)
		text := p.Text()
		got, e := p.Insert(0, 'c')
		wantRefused(t, "P5: Insert at MaxClock", got, e, api.ErrClock)
		got, e = p.Delete(0)
		wantRefused(t, "P6: Delete at MaxClock", got, e, api.ErrClock)
		wantState(t, p, text, 1, 1, 0)
		receive(t, p, 1, packet(1, 2, 1, 1, none, 0, 0, 'd'))
		got, e = p.Insert(0, 'c') // a lesser clock sets none back
		wantRefused(t, "P5: Insert at MaxClock", got, e, api.ErrClock)
	}
}

// What waits has no clock yet that counts.
func TestMaxClockThatWaits(t *testing.T) {
	p := newPeer(t, 0, 3)
	receive(t, p, 0, packet(1, 1, 2, api.MaxClock, []int{0, 1, 0}, 0, 0, 'b'))
	wantPacket(t, insert(t, p, 0, 'a'), packet(1, 0, 1, 1, none, 0, 0, 'a'))
	receive(t, p, 2, later(1))
	s, e := p.Insert(0, 'c')
	wantRefused(t, "P5: Insert at MaxClock", s, e, api.ErrClock)
}

func TestReceivedListsAreTheCallers(t *testing.T) {
	p := newPeer(t, 0, 3)
	room := []string{later(3), later(2), "spare", "room"}
	given := room[:2]
	receive(t, p, 0, given...)
	if !slices.Equal(room, []string{later(3), later(2), "spare", "room"}) {
		t.Errorf("P2: Receive has changed what it was given: %q", room)
	}
	clear(room) // what waits is not the caller's list
	receive(t, p, 3, later(1))
	wantState(t, p, "cba", 0, 3, 0)
}
