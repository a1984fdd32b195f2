package operation

import "testing"

func TestGreater(t *testing.T) {
	for _, c := range []struct {
		one, other Name
		want       bool
	}{
		{Name{2, 0}, Name{1, 0}, true},
		{Name{1, 0}, Name{2, 0}, false},
		{Name{2, 0}, Name{1, 7}, true}, // the clock goes ahead of the peer
		{Name{1, 7}, Name{2, 0}, false},
		{Name{1, 1}, Name{1, 0}, true},
		{Name{1, 0}, Name{1, 1}, false},
		{Name{1, 1}, Name{1, 1}, false},
		{Name{1<<32 - 1, 0}, Name{1<<31 - 1, 0}, true},
	} {
		if got := c.one.Greater(c.other); got != c.want {
			t.Errorf("%v greater than %v: %v, want %v", c.one, c.other, got, c.want)
		}
	}
}

func TestName(t *testing.T) {
	o := Operation{Peer: 3, Number: 5, Clock: 9, Target: Name{1, 2}}
	if got := o.Name(); got != (Name{9, 3}) {
		t.Errorf("the name is %v", got)
	}
}

// The sums were reckoned by another program.
func TestPacket(t *testing.T) {
	for _, c := range []struct {
		operation Operation
		want      []byte
	}{
		{
			Operation{Insertion, 0, 1, 1, []uint32{0, 0, 0}, Name{}, 'a'},
			[]byte{
				1, 0, 0, 0, 0, 1, 0, 0, 0, 1, 0, 0, 0, 0, 0, 0, 0, 0, 0, 0, 0, 0,
				0, 0, 0, 0, 0, 0, 0, 0, 97, 61, 246, 96, 161,
			},
		},
		{
			Operation{Insertion, 0, 2, 2, []uint32{1, 0, 0}, Name{1, 0}, 'b'},
			[]byte{
				1, 0, 0, 0, 0, 2, 0, 0, 0, 2, 0, 0, 0, 1, 0, 0, 0, 0, 0, 0, 0, 0,
				0, 0, 0, 1, 0, 0, 0, 0, 98, 29, 145, 113, 158,
			},
		},
		{
			Operation{Deletion, 1, 3, 4, []uint32{2, 2, 0}, Name{1, 0}, 0},
			[]byte{
				2, 1, 0, 0, 0, 3, 0, 0, 0, 4, 0, 0, 0, 2, 0, 0, 0, 2, 0, 0, 0, 0,
				0, 0, 0, 1, 0, 139, 96, 241, 246,
			},
		},
		{
			Operation{Insertion, 7, 0x01020304, 0xfffefdfc, []uint32{0x0a0b0c0d}, Name{0x05060708, 6}, 0x10ffff},
			[]byte{
				1, 7, 1, 2, 3, 4, 255, 254, 253, 252, 10, 11, 12, 13,
				5, 6, 7, 8, 6, 0, 16, 255, 255, 13, 215, 207, 205,
			},
		},
	} {
		if got := c.operation.Packet(); got != string(c.want) {
			t.Errorf("the packet of %v is %v, want %v", c.operation, []byte(got), c.want)
		}
	}
}

func TestCheckSum(t *testing.T) {
	for _, c := range []struct {
		bytes []byte
		want  uint32
	}{
		{nil, 0},
		{[]byte{0}, 1},
		{[]byte{255}, 256},
		{[]byte{0, 0}, 65600},
		{[]byte{255, 255, 255}, 2131738880},
		{[]byte{255, 255, 255, 255}, 98598912},
	} {
		if got := checkSum(c.bytes); got != c.want {
			t.Errorf("the sum of %v is %d, want %d", c.bytes, got, c.want)
		}
	}
}
