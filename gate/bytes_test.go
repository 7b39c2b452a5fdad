package gate_test

import (
	"math"
	"strings"
	"testing"

	"trivetgate/api"
	"trivetgate/gate"
)

// bytesAre: what is right is written as it must be.
func bytesAre[T any](t *testing.T, x side[T]) {
	for _, w := range x.right {
		for _, tongue := range tongues {
			got, err := x.bytes(tongue, w.is)
			if err != api.OK || string(got) != w.in(tongue) {
				t.Errorf("%s: the bytes of %v in tongue %d are %q, and %d, not %q", x.name, w.is, tongue, got, err, w.in(tongue))
			}
		}
	}
}

// J1: AskBytes and SayBytes.
func TestBytes(t *testing.T) {
	bytesAre(t, asks())
	bytesAre(t, says())
}

// largestComes: what has the largest note comes back in each tongue, and fits in MaxIn bytes.
func largestComes[T any](t *testing.T, x side[T], is T) {
	for _, tongue := range tongues {
		b, err := x.bytes(tongue, is)
		if err != api.OK || len(b) > api.MaxIn {
			t.Errorf("%s: the largest has %d bytes in tongue %d, and %d is told", x.name, len(b), tongue, err)
		}
		x.comes(t, tongue, string(b), answer[T]{all: []T{is}})
	}
}

func TestLargest(t *testing.T) {
	largestComes(t, asks(), api.Ask{Kind: api.AskPut, Queue: "abcdefgh", Note: largest()})
	largestComes(t, says(), api.Say{Kind: api.SayItem, N: api.MaxInt, M: api.MaxTries, Note: largest()})
}

// mistake is something wrong, and what of it is told.
type mistake[T any] struct {
	is   T
	want api.Errno
}

func wrongAsks() []mistake[api.Ask] {
	crowd := api.Note{Props: make([]api.Prop, api.MaxProps+1)}
	return []mistake[api.Ask]{
		{api.Ask{}, api.ErrKind},
		{api.Ask{Kind: -1}, api.ErrKind},
		{api.Ask{Kind: 10}, api.ErrKind},
		{api.Ask{Kind: 256 + api.AskPing}, api.ErrKind},
		{api.Ask{Kind: math.MinInt, Queue: "Q", N: -1, Note: crowd}, api.ErrKind},
		{api.Ask{Kind: api.AskPing, Queue: "q"}, api.ErrName},
		{api.Ask{Kind: api.AskMake}, api.ErrName},
		{api.Ask{Kind: api.AskMake, Queue: "abcdefghi"}, api.ErrName},
		{api.Ask{Kind: api.AskDrop, Queue: "Q"}, api.ErrName},
		{api.Ask{Kind: api.AskTake, Queue: "q\n"}, api.ErrName},
		{api.Ask{Kind: api.AskDone, Queue: "q", N: 1}, api.ErrName},
		{api.Ask{Kind: api.AskPing, N: 1}, api.ErrRange},
		{api.Ask{Kind: api.AskMake, Queue: "q", N: -1}, api.ErrRange},
		{api.Ask{Kind: api.AskMake, Queue: "q", N: api.MaxInt + 1}, api.ErrRange},
		{api.Ask{Kind: api.AskMake, Queue: "q", N: 1 << 32}, api.ErrRange},
		{api.Ask{Kind: api.AskWait, Queue: "q"}, api.ErrRange},
		{api.Ask{Kind: api.AskWait, Queue: "q", N: api.MaxWait + 1}, api.ErrRange},
		{api.Ask{Kind: api.AskDone}, api.ErrRange},
		{api.Ask{Kind: api.AskBack, N: math.MinInt}, api.ErrRange},
		{api.Ask{Kind: api.AskPut, Queue: "q", N: 1}, api.ErrRange},
		{api.Ask{Kind: api.AskTake, Queue: "q", Note: mixed()}, api.ErrForm},
		{api.Ask{Kind: api.AskPing, Note: api.Note{Body: []byte{0}}}, api.ErrForm},
		{api.Ask{Kind: api.AskPut, Queue: "q", Note: crowd}, api.ErrMany},
		{api.Ask{Kind: api.AskPut, Queue: "q", Note: api.Note{Props: []api.Prop{{Key: "a b", Kind: api.PropInt}}}}, api.ErrName},
		{api.Ask{Kind: api.AskPut, Queue: "q", Note: api.Note{Props: []api.Prop{{Key: "a"}}}}, api.ErrKind},
		{api.Ask{Kind: api.AskPut, Queue: "q", Note: api.Note{Props: []api.Prop{{Key: "a", Kind: api.PropFlag, N: 2}}}}, api.ErrRange},
		{api.Ask{Kind: api.AskPut, Queue: "q", Note: api.Note{Body: make([]byte, api.MaxBody+1)}}, api.ErrMuch},
		{api.Ask{Kind: api.AskPut, Queue: "q", Note: api.Note{Body: make([]byte, 70000)}}, api.ErrMuch},
	}
}

func wrongSays() []mistake[api.Say] {
	crowd := api.Note{Props: make([]api.Prop, api.MaxProps+1)}
	return []mistake[api.Say]{
		{api.Say{}, api.ErrKind},
		{api.Say{Kind: -1}, api.ErrKind},
		{api.Say{Kind: 5}, api.ErrKind},
		{api.Say{Kind: math.MaxInt, N: -1, Note: crowd}, api.ErrKind},
		{api.Say{Kind: api.SayOK, N: 1}, api.ErrRange},
		{api.Say{Kind: api.SayOK, M: 1}, api.ErrRange},
		{api.Say{Kind: api.SayOK, Err: api.ErrNone}, api.ErrRange},
		{api.Say{Kind: api.SayItem}, api.ErrRange},
		{api.Say{Kind: api.SayItem, N: api.MaxInt + 1}, api.ErrRange},
		{api.Say{Kind: api.SayItem, N: 1, M: api.MaxTries + 1}, api.ErrRange},
		{api.Say{Kind: api.SayItem, N: 1, M: -1}, api.ErrRange},
		{api.Say{Kind: api.SayItem, N: 1, Err: api.ErrKind}, api.ErrRange},
		{api.Say{Kind: api.SayNone, N: math.MinInt}, api.ErrRange},
		{api.Say{Kind: api.SayErr}, api.ErrRange},
		{api.Say{Kind: api.SayErr, Err: api.ErrShut + 1}, api.ErrRange},
		{api.Say{Kind: api.SayErr, Err: -1}, api.ErrRange},
		{api.Say{Kind: api.SayNone, Note: mixed()}, api.ErrForm},
		{api.Say{Kind: api.SayErr, Err: api.ErrNone, Note: crowd}, api.ErrForm},
		{api.Say{Kind: api.SayItem, N: 1, Note: crowd}, api.ErrMany},
		{api.Say{Kind: api.SayItem, N: 1, Note: api.Note{Props: []api.Prop{{Kind: api.PropInt}}}}, api.ErrName},
		{api.Say{Kind: api.SayItem, N: 1, Note: api.Note{Body: make([]byte, api.MaxBody+1)}}, api.ErrMuch},
	}
}

// bytesRefuse: of what is wrong its error is told, the same one in all tongues, and nothing beside it.
func bytesRefuse[T any](t *testing.T, x side[T], l []mistake[T]) {
	for _, m := range l {
		for _, tongue := range tongues {
			if got, err := x.bytes(tongue, m.is); err != m.want || len(got) > 0 {
				t.Errorf("%s: the bytes of %v in tongue %d are %q, and %d, not %d", x.name, m.is, tongue, got, err, m.want)
			}
		}
	}
}

// J1: Wrong's error.
func TestBytesOfWrongOnes(t *testing.T) {
	bytesRefuse(t, asks(), wrongAsks())
	bytesRefuse(t, says(), wrongSays())
}

// noBytes: without a tongue ErrKind is told, whatever is right or wrong beside.
func noBytes[T any](t *testing.T, x side[T], l []mistake[T]) {
	for _, w := range x.right {
		l = append(l, mistake[T]{is: w.is})
	}
	for _, m := range l {
		for _, n := range noTongues {
			if got, err := x.bytes(n, m.is); err != api.ErrKind || len(got) > 0 {
				t.Errorf("%s: the bytes of %v in tongue %d are %q, and %d", x.name, m.is, n, got, err)
			}
		}
	}
}

// noneCome: without a tongue ErrKind is told, and nothing is left.
func noneCome[T any](t *testing.T, x side[T]) {
	for _, n := range noTongues {
		for _, b := range []string{"", "z", "ping\n", bad, x.right[0].as[0], strings.Repeat("z", 500)} {
			x.comes(t, n, b, answer[T]{err: api.ErrKind})
		}
	}
}

// J1: ErrKind of others, ahead of all else; Z4: nothing beside it.
func TestNoTongue(t *testing.T) {
	noBytes(t, asks(), wrongAsks())
	noBytes(t, says(), wrongSays())
	noneCome(t, asks())
	noneCome(t, says())
	for _, n := range noTongues {
		for _, most := range []int{math.MinInt, -1, 0, 1} {
			if l, left, err := gate.Asks(n, []byte("ping\n"), most); err != api.ErrKind || len(l) > 0 || len(left) > 0 {
				t.Errorf("Asks of tongue %d, %d at most: %v, %q, %d", n, most, l, left, err)
			}
		}
	}
}

// bytesAreOwn: what is written is new memory, and what was handed in is only read.
func bytesAreOwn[T any](t *testing.T, x side[T]) {
	for _, w := range x.right {
		for _, tongue := range tongues {
			given := w.is
			n := x.note(&given)
			*n = roomyNote(*x.note(&w.is))
			b, _ := x.bytes(tongue, given)
			other, _ := x.bytes(tongue, given)
			spoilBytes(other)
			checkOnlyRead(t, *n, *x.note(&w.is))
			spoilNote(*n)
			if string(b) != w.in(tongue) {
				t.Errorf("%s: the bytes of %v changed with it, or with others: %q", x.name, w.is, b)
			}
		}
	}
}

func TestBytesShareNothing(t *testing.T) {
	bytesAreOwn(t, asks())
	bytesAreOwn(t, says())
}
