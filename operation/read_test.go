package operation

import (
	"reflect"
	"slices"
	"testing"
)

// summed lays the right sum behind bytes, so that nothing but what they say is wrong.
func summed(bytes ...[]byte) string {
	all := slices.Concat(bytes...)
	return string(appendFour(all, checkSum(all)))
}

func TestReadTellsWhatPacketSaid(t *testing.T) {
	for _, o := range []Operation{
		{Insertion, 0, 1, 1, []uint32{0}, Name{}, 0},
		{Insertion, 0, 1, 1, []uint32{0, 0, 0}, Name{}, 'a'},
		{Insertion, 2, 5, 9, []uint32{1, 2, 4}, Name{8, 2}, 55295},
		{Insertion, 1, 1, 1, []uint32{0, 0}, Name{1, 0}, 57344},
		{Insertion, 1, 1, 1, []uint32{0, 0}, Name{1, 1}, 1114111}, // behind itself: no field is out of its bounds
		{Insertion, 7, 0x01020304, 0xfffefdfc, []uint32{10, 11, 12, 13, 14, 15, 1<<32 - 1, 0x01020303}, Name{0x05060708, 7}, 0x10203},
		{Insertion, 0, 1<<32 - 1, 1<<32 - 1, []uint32{1<<32 - 2, 1<<32 - 1}, Name{1<<32 - 1, 0}, 'z'},
		{Deletion, 0, 1, 1, []uint32{0}, Name{1, 0}, 0},
		{Deletion, 1, 3, 4, []uint32{2, 2, 0}, Name{1, 2}, 0},
	} {
		got, right := Read(o.Packet(), len(o.Seen))
		if !right || !reflect.DeepEqual(got, o) {
			t.Errorf("P7: Read of the packet of %v = %v, %v", o, got, right)
		}
		for peers := range 10 {
			if _, right := Read(o.Packet(), peers); right != (peers == len(o.Seen)) {
				t.Errorf("P7: of a group of %d, in one of %d, right: %v", len(o.Seen), peers, right)
			}
		}
	}
}

func TestReadSharesNothing(t *testing.T) {
	s := Operation{Insertion, 0, 1, 1, []uint32{0, 7}, Name{}, 'a'}.Packet()
	one, _ := Read(s, 2)
	one.Seen[1] = 9
	if other, _ := Read(s, 2); other.Seen[1] != 7 {
		t.Errorf("P2: two answers share memory: %v", other)
	}
}

func TestReadRefusesFields(t *testing.T) {
	for _, c := range []struct {
		what      string
		operation Operation
	}{
		{"peer", Operation{Insertion, 2, 1, 1, []uint32{0, 0}, Name{}, 'a'}},
		{"peer", Operation{Insertion, 255, 1, 1, []uint32{0, 0}, Name{}, 'a'}},
		{"number", Operation{Insertion, 0, 0, 1, []uint32{0, 0}, Name{}, 'a'}},
		{"number", Operation{Insertion, 0, 0, 1, []uint32{1<<32 - 1, 0}, Name{}, 'a'}},
		{"clock", Operation{Insertion, 0, 1, 0, []uint32{0, 0}, Name{}, 'a'}},
		{"how many of its maker's", Operation{Insertion, 1, 2, 1, []uint32{1, 0}, Name{}, 'a'}},
		{"how many of its maker's", Operation{Insertion, 1, 2, 1, []uint32{1, 2}, Name{}, 'a'}},
		{"how many of its maker's", Operation{Deletion, 1, 2, 1, []uint32{1, 3}, Name{1, 0}, 0}},
		{"name's clock", Operation{Insertion, 0, 1, 1, []uint32{0, 0}, Name{0, 1}, 'a'}},
		{"name's peer", Operation{Insertion, 0, 1, 1, []uint32{0, 0}, Name{1, 2}, 'a'}},
		{"name's peer", Operation{Insertion, 0, 1, 1, []uint32{0, 0}, Name{0, 2}, 'a'}},
		{"the beginning", Operation{Deletion, 0, 1, 1, []uint32{0, 0}, Name{}, 0}},
		{"name's clock", Operation{Deletion, 0, 1, 1, []uint32{0, 0}, Name{0, 1}, 0}},
		{"name's peer", Operation{Deletion, 0, 1, 1, []uint32{0, 0}, Name{1, 2}, 0}},
		{"character", Operation{Insertion, 0, 1, 1, []uint32{0, 0}, Name{}, 55296}},
		{"character", Operation{Insertion, 0, 1, 1, []uint32{0, 0}, Name{}, 57343}},
		{"character", Operation{Insertion, 0, 1, 1, []uint32{0, 0}, Name{1, 1}, 1114112}},
		{"character", Operation{Insertion, 0, 1, 1, []uint32{0, 0}, Name{}, -1}},
		{"character", Operation{Insertion, 0, 1, 1, []uint32{0, 0}, Name{}, -1<<31 + 'a'}},
		{"kind", Operation{0, 0, 1, 1, []uint32{0, 0}, Name{1, 1}, 0}},
		{"kind", Operation{3, 0, 1, 1, []uint32{0, 0}, Name{1, 1}, 0}},
		{"kind", Operation{255, 0, 1, 1, []uint32{0, 0}, Name{1, 1}, 0}},
	} {
		if got, right := Read(c.operation.Packet(), len(c.operation.Seen)); right {
			t.Errorf("P7: %s: Read of the packet of %v = %v", c.what, c.operation, got)
		}
	}
}

func TestReadRefusesLengths(t *testing.T) {
	insertion := []byte{1, 0, 0, 0, 0, 1, 0, 0, 0, 1, 0, 0, 0, 0, 0, 0, 0, 0, 0, 0, 0, 1, 1, 0, 0, 0, 97}
	if _, right := Read(summed(insertion), 2); !right {
		t.Fatal("P7: what these tests spoil is not right")
	}
	deletion := slices.Concat([]byte{2}, insertion[1:23])
	if _, right := Read(summed(deletion), 2); !right {
		t.Fatal("P7: what these tests spoil is not right")
	}
	for _, whole := range [][]byte{insertion, deletion} {
		for n := range len(whole) {
			if _, right := Read(summed(whole[:n]), 2); right {
				t.Errorf("P7: the first %d bytes of %v are right", n, whole)
			}
		}
		for n := 1; n < 10; n++ {
			if _, right := Read(summed(whole, make([]byte, n)), 2); right {
				t.Errorf("P7: %v and %d more are right", whole, n)
			}
		}
		for n := range len(whole) + 4 {
			if _, right := Read(summed(whole)[:n], 2); right {
				t.Errorf("P7: the first %d bytes of a packet are right", n)
			}
		}
	}
	otherKinds := []string{
		summed([]byte{2}, insertion[1:]), summed([]byte{1}, deletion[1:]),
		summed([]byte{3}, insertion[1:]), summed([]byte{0}, insertion[1:]), summed([]byte{0x49}, insertion[1:]),
	}
	for _, s := range otherKinds {
		if _, right := Read(s, 2); right {
			t.Errorf("P7: %v is right", []byte(s))
		}
	}
}

// Of each packet, each other value of each one byte makes the sum wrong.
func TestReadRefusesSpoiltBytes(t *testing.T) {
	for _, o := range []Operation{
		{Insertion, 1, 2, 3, []uint32{4, 1, 5}, Name{2, 2}, 'a'},
		{Deletion, 1, 2, 3, []uint32{4, 1, 5}, Name{2, 2}, 0},
	} {
		for i := range len(o.Packet()) {
			for by := 1; by < 256; by++ {
				b := []byte(o.Packet())
				b[i] ^= byte(by)
				if got, right := Read(string(b), 3); right {
					t.Errorf("P7: Read of the packet of %v with byte %d now %d = %v", o, i, b[i], got)
				}
			}
		}
	}
}

// Whatever a right packet's bytes are, the operation that was read writes the same ones: nothing of them is lost.
func TestReadLosesNoByte(t *testing.T) {
	for _, o := range []Operation{
		{Insertion, 1, 2, 3, []uint32{4, 1, 5}, Name{2, 2}, 'a'},
		{Insertion, 0, 1, 1, []uint32{0, 0, 0}, Name{}, 0},
		{Deletion, 1, 2, 3, []uint32{4, 1, 5}, Name{2, 2}, 0},
	} {
		rights, size := 0, len(o.Packet())-4
		for i := range size {
			for by := range 256 {
				b := []byte(o.Packet()[:size])
				b[i] = byte(by)
				s := summed(b)
				got, right := Read(s, 3)
				if right && got.Packet() != s {
					t.Errorf("P10: %v is read as %v", []byte(s), got)
				}
				if right {
					rights++
				}
			}
		}
		if rights < 2000 {
			t.Errorf("%d of the packets are right only", rights)
		}
	}
}
