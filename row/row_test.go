package row

import (
	"testing"

	"chorus/operation"
)

var beginning operation.Name

func name(clock uint32, peer byte) operation.Name {
	return operation.Name{Clock: clock, Peer: peer}
}

func wantText(t *testing.T, r *Row, want string) {
	t.Helper()
	if got := r.Text(); got != want {
		t.Errorf("P8: the text is %q, want %q", got, want)
	}
}

func TestInsertGoesBehindItsElement(t *testing.T) {
	var r Row
	wantText(t, &r, "")
	r.Insert(name(1, 0), beginning, 'a')
	r.Insert(name(2, 0), name(1, 0), 'c')
	r.Insert(name(3, 0), name(1, 0), 'b')
	r.Insert(name(4, 0), name(2, 0), 'd')
	r.Insert(name(5, 0), beginning, '0')
	wantText(t, &r, "0abcd")
}

func TestInsertGoesBehindTheGreaterThatFollow(t *testing.T) {
	var r Row
	r.Insert(name(1, 1), beginning, 'x')
	r.Insert(name(1, 0), beginning, 'a') // of the same clock the peer tells
	wantText(t, &r, "xa")
	r.Insert(name(1, 2), beginning, 'z')
	wantText(t, &r, "zxa")

	r = Row{}
	r.Insert(name(1, 0), beginning, 'a')
	r.Insert(name(9, 0), name(1, 0), 'd')
	r.Insert(name(3, 0), name(1, 0), 'e') // the row is a, d (9), e (3)
	r.Insert(name(8, 0), name(3, 0), 'f') // a greater one behind a lesser one
	wantText(t, &r, "adef")
	r.Insert(name(5, 0), name(1, 0), 'N') // behind 9, ahead of 3: 8 does not follow one behind the other
	wantText(t, &r, "adNef")
	r.Insert(name(2, 0), name(1, 0), 'M') // behind all
	wantText(t, &r, "adNefM")
}

func TestInsertPassesDeadElements(t *testing.T) {
	var r Row
	r.Insert(name(1, 0), beginning, 'a')
	r.Insert(name(5, 0), name(1, 0), 'b')
	r.Insert(name(6, 0), name(5, 0), 'c')
	r.Kill(name(5, 0))
	r.Insert(name(3, 0), name(1, 0), 'd')
	wantText(t, &r, "acd")
	r.Insert(name(7, 0), name(5, 0), 'e')
	wantText(t, &r, "aecd")
}

func TestInsertThatDoesNothing(t *testing.T) {
	var r Row
	r.Insert(name(1, 0), name(1, 0), 'x') // behind itself
	r.Insert(name(1, 0), name(2, 0), 'x') // behind what is not there
	wantText(t, &r, "")
	r.Insert(name(1, 0), beginning, 'a')
	r.Insert(name(1, 0), beginning, 'x') // of a name that is there
	r.Insert(name(2, 0), name(1, 1), 'x')
	r.Insert(name(2, 0), name(0, 1), 'x') // the beginning's clock, but not its peer
	wantText(t, &r, "a")
	r.Kill(name(1, 0))
	r.Insert(name(1, 0), beginning, 'x') // a dead element has its name still
	wantText(t, &r, "")
}

func TestKill(t *testing.T) {
	var r Row
	r.Kill(beginning)
	r.Kill(name(1, 0))
	r.Insert(name(1, 0), beginning, 'a')
	r.Insert(name(1, 1), name(1, 0), 'b')
	r.Kill(name(2, 0))
	r.Kill(beginning)
	wantText(t, &r, "ab")
	r.Kill(name(1, 1))
	wantText(t, &r, "a")
	r.Kill(name(1, 1))
	wantText(t, &r, "a")
}

func TestNameAtCountsTheLiving(t *testing.T) {
	var r Row
	if _, found := r.NameAt(0); found {
		t.Error("an empty row has a character")
	}
	r.Insert(name(1, 0), beginning, 'a')
	r.Insert(name(2, 0), name(1, 0), 'b')
	r.Insert(name(3, 0), name(2, 0), 'c')
	r.Insert(name(4, 0), name(3, 0), 'd')
	r.Kill(name(1, 0))
	r.Kill(name(3, 0))
	for at, want := range []operation.Name{name(2, 0), name(4, 0)} {
		if got, found := r.NameAt(at); !found || got != want {
			t.Errorf("NameAt(%d) = %v, %v, want %v", at, got, found, want)
		}
	}
	for _, at := range []int{-1, 2, 3, 1<<63 - 1, -1 << 63} {
		if got, found := r.NameAt(at); found || got != beginning {
			t.Errorf("NameAt(%d) = %v, %v, want none", at, got, found)
		}
	}
}

func TestTextIsUTF8(t *testing.T) {
	var r Row
	behind := beginning
	for i, char := range []rune{0, 0x7f, 0x80, 0x7ff, 0x800, 0xd7ff, 0xe000, 0xfffd, 0xffff, 0x10000, 0x10ffff} {
		r.Insert(name(uint32(i+1), 0), behind, char)
		behind = name(uint32(i+1), 0)
	}
	wantText(t, &r, "\x00\x7f\xc2\x80\xdf\xbf\xe0\xa0\x80\xed\x9f\xbf\xee\x80\x80\xef\xbf\xbd\xef\xbf\xbf\xf0\x90\x80\x80\xf4\x8f\xbf\xbf")
}
