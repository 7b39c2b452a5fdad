package lines_test

import (
	"bytes"
	"math"
	"strings"
	"testing"

	"trivetgate/api"
	"trivetgate/lines"
)

// linesAre: what is right is written as it must be.
func linesAre[T any](t *testing.T, x tongue[T]) {
	for _, w := range x.right {
		if got := x.bytes(w.is); string(got) != w.line {
			t.Errorf("%s: the bytes of %v are %q, not %q", x.name, w.is, got, w.line)
		}
	}
}

// H2: AskBytes and SayBytes.
func TestBytes(t *testing.T) {
	linesAre(t, asks())
	linesAre(t, says())
}

// H2: each error has a line of its own.
func TestErrors(t *testing.T) {
	for k, want := range []string{"-1\n", "-2\n", "-3\n", "-4\n", "-5\n", "-6\n", "-7\n", "-8\n", "-9\n", "-10\n"} {
		s := api.Say{Kind: api.SayErr, Err: api.Errno(k + 1)}
		if got := lines.SayBytes(s); string(got) != want {
			t.Errorf("the bytes of %v are %q, not %q", s, got, want)
		}
		says().comes(t, want, written[api.Say]{s, want})
	}
}

// The document's eighth example.
func TestTakeIsSevenBytes(t *testing.T) {
	if got := len(lines.AskBytes(api.Ask{Kind: api.AskTake, Queue: "q"})); got != 7 {
		t.Errorf("take q has %d bytes", got)
	}
}

// H2: the longest lines that notes allow (chapter 1) fit in MaxIn bytes: each of them can be read.
func TestLongestFit(t *testing.T) {
	const noteSize = 4*(1+8+1+1+24) + 1 + 1 + 80
	ask := lines.AskBytes(api.Ask{Kind: api.AskPut, Queue: "abcdefgh", Note: largest()})
	if len(ask) != 12+noteSize+1 || len(ask) > api.MaxIn {
		t.Errorf("the longest ask has %d bytes", len(ask))
	}
	say := lines.SayBytes(api.Say{Kind: api.SayItem, N: api.MaxInt, M: api.MaxTries, Note: largest()})
	if len(say) != 18+noteSize+1 || len(say) > api.MaxIn {
		t.Errorf("the longest answer has %d bytes", len(say))
	}
}

// bytesAreOwn: what is written is new memory, and what was handed in is only read.
func bytesAreOwn[T any](t *testing.T, x tongue[T]) {
	for _, w := range x.right {
		given := w.is
		n := x.note(&given)
		*n = roomyNote(*x.note(&w.is))
		b := x.bytes(given)
		other := x.bytes(given)
		checkOnlyRead(t, *n, *x.note(&w.is))
		sharesNothing(t, b, other)
		spoilBytes(other)
		checkOnlyRead(t, *n, *x.note(&w.is))
		spoilNote(*n)
		if string(b) != w.line {
			t.Errorf("%s: the bytes of %v changed with it: %q", x.name, w.is, b)
		}
	}
}

func TestBytesShareNothing(t *testing.T) {
	bytesAreOwn(t, asks())
	bytesAreOwn(t, says())
}

// Z1: of wrong ones nothing is promised, but that they are answered.
func TestBytesOfWrongOnesAnswer(t *testing.T) {
	long := api.Note{Props: make([]api.Prop, 300), Body: make([]byte, 70000)}
	for _, kind := range []int{0, -1, api.AskPut, api.SayItem, api.SayErr, 10, 256, math.MaxInt, math.MinInt} {
		for _, n := range []int{-1, 1 << 32, math.MaxInt, math.MinInt} {
			a := api.Ask{Kind: kind, Queue: strings.Repeat("q ", 70000), N: n, Note: long}
			s := api.Say{Kind: kind, N: n, M: n, Err: api.Errno(n), Note: long}
			if !bytes.Equal(lines.AskBytes(a), lines.AskBytes(a)) || !bytes.Equal(lines.SayBytes(s), lines.SayBytes(s)) {
				t.Errorf("kind %d, and %d, are answered now so, now so", kind, n)
			}
		}
	}
}
