package frames_test

import (
	"bytes"
	"math"
	"strings"
	"testing"

	"trivetgate/api"
	"trivetgate/frames"
)

// G1: AskBytes.
func TestAskBytes(t *testing.T) {
	tests := []struct {
		a    api.Ask
		want string
	}{
		{api.Ask{Kind: api.AskPing}, "\x00\x06\x01\x00\x00\x00\x00\x00"},
		{api.Ask{Kind: api.AskPing, Note: empty()}, "\x00\x06\x01\x00\x00\x00\x00\x00"},
		{api.Ask{Kind: api.AskMake, Queue: "q", N: 0x01020304}, "\x00\x07\x02\x01q\x01\x02\x03\x04"},
		{api.Ask{Kind: api.AskMake, Queue: "abcdefgh", N: api.MaxInt}, "\x00\x0e\x02\x08abcdefgh\x40\x00\x00\x00"},
		{api.Ask{Kind: api.AskDrop, Queue: "work"}, "\x00\x0a\x03\x04work\x00\x00\x00\x00"},
		{api.Ask{Kind: api.AskPut, Queue: "q"}, "\x00\x09\x04\x01q\x00\x00\x00\x00\x00\x00"},
		{api.Ask{Kind: api.AskPut, Queue: "q", Note: letter('z')}, "\x00\x10\x04\x01q\x00\x00\x00\x00" + letterBytes},
		{api.Ask{Kind: api.AskTake, Queue: "q"}, "\x00\x07\x05\x01q\x00\x00\x00\x00"},
		{api.Ask{Kind: api.AskWait, Queue: "q", N: api.MaxWait}, "\x00\x07\x06\x01q\x00\x00\x00\x09"},
		{api.Ask{Kind: api.AskDone, N: 258}, "\x00\x06\x07\x00\x00\x00\x01\x02"},
		{api.Ask{Kind: api.AskBack, N: 1}, "\x00\x06\x08\x00\x00\x00\x00\x01"},
		{api.Ask{Kind: api.AskPurge, Queue: "q"}, "\x00\x07\x09\x01q\x00\x00\x00\x00"},
	}
	for _, c := range tests {
		if got := frames.AskBytes(c.a); string(got) != c.want {
			t.Errorf("AskBytes(%v) is %q, not %q", c.a, got, c.want)
		}
	}
}

// G1: SayBytes.
func TestSayBytes(t *testing.T) {
	tests := []struct {
		s    api.Say
		want string
	}{
		{api.Say{Kind: api.SayOK}, "\x00\x07\x01\x00\x00\x00\x00\x00\x00"},
		{api.Say{Kind: api.SayOK, Note: empty()}, "\x00\x07\x01\x00\x00\x00\x00\x00\x00"},
		{api.Say{Kind: api.SayItem, N: 1}, "\x00\x09\x02\x00\x00\x00\x01\x00\x00\x00\x00"},
		{api.Say{Kind: api.SayItem, N: 0x01020304, M: 3, Note: letter('z')}, "\x00\x10\x02\x01\x02\x03\x04\x03\x00" + letterBytes},
		{api.Say{Kind: api.SayItem, N: api.MaxInt, M: 1}, "\x00\x09\x02\x40\x00\x00\x00\x01\x00\x00\x00"},
		{api.Say{Kind: api.SayNone}, "\x00\x07\x03\x00\x00\x00\x00\x00\x00"},
		{api.Say{Kind: api.SayErr, Err: api.ErrKind}, "\x00\x07\x04\x00\x00\x00\x00\x00\x01"},
		{api.Say{Kind: api.SayErr, Err: api.ErrShut}, "\x00\x07\x04\x00\x00\x00\x00\x00\x0a"},
	}
	for _, c := range tests {
		if got := frames.SayBytes(c.s); string(got) != c.want {
			t.Errorf("SayBytes(%v) is %q, not %q", c.s, got, c.want)
		}
	}
}

// G1: the longest ones of all.
func TestLongest(t *testing.T) {
	const noteSize = 1 + 4*(1+8+1+1+12) + 1 + 40
	if got := len(frames.AskBytes(api.Ask{Kind: api.AskPut, Queue: "abcdefgh", Note: largest()})); got != 2+1+1+8+4+noteSize {
		t.Errorf("the longest ask has %d bytes", got)
	}
	if got := len(frames.SayBytes(api.Say{Kind: api.SayItem, N: 1, Note: largest()})); got != 2+1+4+1+1+noteSize {
		t.Errorf("the longest answer has %d bytes", got)
	}
}

// bytesAreOwn: what is written is new memory, and what was handed in is only read.
func bytesAreOwn[T any](t *testing.T, x tongue[T]) {
	for _, v := range x.right {
		given := x.with(v, roomyNote(x.noteOf(v)))
		b := x.bytes(given)
		was := bytes.Clone(b)
		checkNoteRoom(t, x.noteOf(given))
		spoilNote(x.noteOf(given))
		if !bytes.Equal(b, was) {
			t.Errorf("%s: the bytes of %v changed with it", x.name, v)
		}
		given = x.with(v, roomyNote(x.noteOf(v)))
		spoilBytes(x.bytes(given))
		checkNoteRoom(t, x.noteOf(given))
		if !x.same(given, v) || !bytes.Equal(x.bytes(given), was) {
			t.Errorf("%s: %v changed with its bytes", x.name, v)
		}
	}
}

func TestBytesShareNothing(t *testing.T) {
	bytesAreOwn(t, asks())
	bytesAreOwn(t, says())
}

// Z1: of wrong ones nothing is promised, but that they are answered.
func TestBytesOfWrongOnesAnswer(t *testing.T) {
	long := api.Note{Props: make([]api.Prop, 300), Body: make([]byte, 70000)}
	for _, kind := range []int{0, -1, api.AskPut, api.SayItem, 10, 256, math.MaxInt, math.MinInt} {
		for _, n := range []int{-1, 1 << 32, math.MaxInt, math.MinInt} {
			frames.AskBytes(api.Ask{Kind: kind, Queue: strings.Repeat("q", 70000), N: n, Note: long})
			frames.SayBytes(api.Say{Kind: kind, N: n, M: n, Err: api.Errno(n), Note: long})
		}
	}
}
