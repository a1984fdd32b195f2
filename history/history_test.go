package history

import (
	"math"
	"math/rand"
	"reflect"
	"slices"
	"testing"

	"chorus/operation"
)

// filled makes a history out of the clocks of each peer's operations.
func filled(clocks ...[]uint32) History {
	h := New(len(clocks))
	for peer, l := range clocks {
		for i, clock := range l {
			h.Add(operation.Operation{Peer: byte(peer), Number: uint32(i + 1), Clock: clock})
		}
	}
	return h
}

// mark is an operation's peer and number.
type mark [2]int

func marks(l []operation.Operation) []mark {
	var told []mark
	for _, o := range l {
		told = append(told, mark{int(o.Peer), int(o.Number)})
	}
	return told
}

func TestCounts(t *testing.T) {
	h := New(3)
	if got := h.Counts(); h.Peers() != 3 || !slices.Equal(got, []uint32{0, 0, 0}) {
		t.Errorf("a new history is of %d peers and has %v", h.Peers(), got)
	}
	h.Add(operation.Operation{Peer: 2, Number: 1})
	h.Add(operation.Operation{Peer: 0, Number: 1})
	h.Add(operation.Operation{Peer: 2, Number: 2})
	counts := h.Counts()
	if !slices.Equal(counts, []uint32{1, 0, 2}) {
		t.Errorf("the counts are %v", counts)
	}
	for peer, want := range counts {
		if got := h.Count(byte(peer)); got != want {
			t.Errorf("the count of %d is %d, want %d", peer, got, want)
		}
	}
	clear(counts)
	if got := h.Counts(); !slices.Equal(got, []uint32{1, 0, 2}) {
		t.Errorf("P2: a list that was handed out is kept: %v", got)
	}
}

func TestAbove(t *testing.T) {
	for _, c := range []struct {
		what   string
		clocks [][]uint32
		known  []int
		want   []mark
	}{
		{"nothing there", [][]uint32{{}, {}}, []int{0, 0}, nil},
		{"nothing lacking", [][]uint32{{1, 2}, {3}}, []int{2, 1}, nil},
		{"more than there is", [][]uint32{{1, 2}, {3}}, []int{3, math.MaxInt}, nil},
		{"one peer", [][]uint32{{1, 2, 3}}, []int{1}, []mark{{0, 2}, {0, 3}}},
		{"by the clock", [][]uint32{{2, 5}, {1, 6}, {3, 4}}, []int{0, 0, 0},
			[]mark{{1, 1}, {0, 1}, {2, 1}, {2, 2}, {0, 2}, {1, 2}}},
		{"by the peer", [][]uint32{{2, 2}, {1, 2}, {2}}, []int{0, 0, 0},
			[]mark{{1, 1}, {0, 1}, {0, 2}, {1, 2}, {2, 1}}},
		{"some lacking", [][]uint32{{1, 4}, {2, 5}, {3, 6}}, []int{1, 0, 2}, []mark{{1, 1}, {0, 2}, {1, 2}}},
		{"clocks that go back", [][]uint32{{9, 1}, {5, 2}, {9}}, []int{0, 0, 0},
			[]mark{{1, 1}, {1, 2}, {0, 1}, {0, 2}, {2, 1}}},
		{"the greatest clocks", [][]uint32{{math.MaxUint32}, {math.MaxInt32}, {1}}, []int{0, 0, 0},
			[]mark{{2, 1}, {1, 1}, {0, 1}}},
	} {
		h := filled(c.clocks...)
		for range 2 { // telling changes nothing
			if got := marks(h.Above(c.known)); !slices.Equal(got, c.want) {
				t.Errorf("P10: %s: %v, want %v", c.what, got, c.want)
			}
		}
	}
}

func TestAboveTellsWhatWasAdded(t *testing.T) {
	h := New(2)
	want := []operation.Operation{
		{Kind: operation.Deletion, Peer: 1, Number: 1, Clock: 3, Seen: []uint32{7, 0}, Target: operation.Name{Clock: 2, Peer: 1}},
		{Kind: operation.Insertion, Peer: 0, Number: 1, Clock: 4, Seen: []uint32{0, 1}, Char: 'a'},
	}
	h.Add(want[1])
	h.Add(want[0])
	if got := h.Above([]int{0, 0}); !reflect.DeepEqual(got, want) {
		t.Errorf("P10: %v, want %v", got, want)
	}
}

func TestAboveIsNewMemory(t *testing.T) {
	h := filled([]uint32{1, 3}, []uint32{2, 4})
	known := []int{0, 1, 8, 9}
	told := h.Above(known[:2])
	clear(told[:cap(told)])
	if want := []mark{{0, 1}, {0, 2}, {1, 2}}; !slices.Equal(marks(h.Above(known[:2])), want) {
		t.Errorf("P2: an answer that was written full changed a later one: %v", marks(h.Above(known[:2])))
	}
	if !slices.Equal(known, []int{0, 1, 8, 9}) {
		t.Errorf("P2: the list that was handed in is now %v", known)
	}
}

// plain goes by P10's words without a heap: again and again it looks at each peer's next one.
func plain(clocks [][]uint32, known []int) []mark {
	next := slices.Clone(known)
	var told []mark
	for {
		least := -1
		for peer, l := range clocks {
			if next[peer] < len(l) && (least < 0 || l[next[peer]] < clocks[least][next[least]]) {
				least = peer
			}
		}
		if least < 0 {
			return told
		}
		next[least]++
		told = append(told, mark{least, next[least]})
	}
}

func TestDrawnHistories(t *testing.T) {
	r := rand.New(rand.NewSource(5))
	for range 3000 {
		clocks := make([][]uint32, 1+r.Intn(8))
		known := make([]int, len(clocks))
		for peer := range clocks {
			for range r.Intn(12) {
				clocks[peer] = append(clocks[peer], uint32(1+r.Intn(9)))
			}
			known[peer] = max(0, r.Intn(14)-5)
		}
		h := filled(clocks...)
		if got, want := marks(h.Above(known)), plain(clocks, known); !slices.Equal(got, want) {
			t.Fatalf("P10: of %v, above %v: %v, want %v", clocks, known, got, want)
		}
	}
}
