package session_test

import (
	"math"
	"slices"
	"testing"

	"trivetgate/api"
	"trivetgate/session"
)

// F1: Own.
func TestOwn(t *testing.T) {
	for _, s := range []api.Session{{}, {Tags: []api.Tag{}, Next: 3}, sample().s, {Next: -4, Tags: make([]api.Tag, 30)}} {
		given := roomySession(s)
		got := session.Own(given)
		if !sameSession(got, s) {
			t.Errorf("the copy of %v is %v", s, got)
		}
		spoilSession(got)
		if !sameSession(given, s) || behind(given.Tags) != roomTag {
			t.Errorf("%v changed with its copy", given)
		}
		got = session.Own(given)
		spoilSession(given)
		if !sameSession(got, s) {
			t.Errorf("a copy of %v changed with it: %v", s, got)
		}
	}
}

// right are right asks, of each kind, at its edges.
func right() []api.Ask {
	return []api.Ask{
		{Kind: api.AskPing}, {Kind: api.AskPing, Note: api.Note{Props: []api.Prop{}, Body: []byte{}}},
		{Kind: api.AskMake, Queue: "q"}, {Kind: api.AskMake, Queue: "abcdefgh", N: api.MaxInt}, {Kind: api.AskMake, Queue: "q", N: 9},
		{Kind: api.AskDrop, Queue: "q"}, {Kind: api.AskDrop, Queue: "zzzzzzzz"},
		{Kind: api.AskPut, Queue: "q"}, {Kind: api.AskPut, Queue: "q", Note: largest()}, {Kind: api.AskPut, Queue: "dead", Note: letter('x')},
		{Kind: api.AskTake, Queue: "q"},
		{Kind: api.AskWait, Queue: "q", N: 1}, {Kind: api.AskWait, Queue: "q", N: api.MaxWait},
		{Kind: api.AskDone, N: 1}, {Kind: api.AskDone, N: api.MaxInt},
		{Kind: api.AskBack, N: 1}, {Kind: api.AskBack, N: api.MaxInt},
		{Kind: api.AskPurge, Queue: "q"},
	}
}

// F1: Wrong, of right asks, which are only read.
func TestRight(t *testing.T) {
	for _, a := range right() {
		given := roomyAsk(a)
		if err := session.Wrong(given); err != api.OK {
			t.Errorf("%v: %d is told", a, err)
		}
		checkAskOnlyRead(t, given, a)
	}
}

// plain is a right ask of each kind.
func plain() []api.Ask {
	return []api.Ask{
		{Kind: api.AskPing}, {Kind: api.AskMake, Queue: "q", N: 3}, {Kind: api.AskDrop, Queue: "q"}, {Kind: api.AskPut, Queue: "q", Note: letter('x')}, {Kind: api.AskTake, Queue: "q"},
		{Kind: api.AskWait, Queue: "q", N: 3}, {Kind: api.AskDone, N: 3}, {Kind: api.AskBack, N: 3}, {Kind: api.AskPurge, Queue: "q"},
	}
}

func checkWrong(t *testing.T, a api.Ask, want api.Errno) {
	t.Helper()
	if err := session.Wrong(a); err != want {
		t.Errorf("%v: %d is told, not %d", a, err, want)
	}
}

// F1: kinds.
func TestWrongKind(t *testing.T) {
	for _, kind := range []int{0, -1, 10, 11, 255, 257, math.MaxInt, math.MinInt} {
		checkWrong(t, api.Ask{Kind: kind}, api.ErrKind)
		checkWrong(t, api.Ask{Kind: kind, Queue: "NO", N: -1, Note: letter('x')}, api.ErrKind)
	}
}

// F1: queues.
func TestWrongQueue(t *testing.T) {
	for _, a := range plain() {
		names := []string{"", "Q", "abcdefghi", "a b", "q\x00", "\xff"}
		if a.Queue == "" {
			names = []string{"q", "Q", "dead", "\x00"}
		}
		for _, name := range names {
			a.Queue = name
			checkWrong(t, a, api.ErrName)
			a.N = -1
			checkWrong(t, a, api.ErrName)
		}
	}
}

// F1: numbers.
func TestWrongNumber(t *testing.T) {
	wrong := map[int][]int{
		api.AskMake: {-1, api.MaxInt + 1},
		api.AskWait: {0, -1, api.MaxWait + 1, api.MaxInt},
		api.AskDone: {0, -1, api.MaxInt + 1},
		api.AskBack: {0, -1, api.MaxInt + 1},
	}
	for _, a := range plain() {
		numbers, has := wrong[a.Kind]
		if !has {
			numbers = []int{1, -1, api.MaxInt}
		}
		for _, a.N = range append(slices.Clone(numbers), math.MaxInt, math.MinInt) {
			checkWrong(t, a, api.ErrRange)
			withNote := a
			withNote.Note = api.Note{Props: make([]api.Prop, 9)}
			checkWrong(t, withNote, api.ErrRange)
		}
	}
}

// F1: notes that are not to be there, be they right or wrong.
func TestStrayNote(t *testing.T) {
	for _, a := range plain() {
		if a.Kind == api.AskPut {
			continue
		}
		for _, n := range []api.Note{letter('x'), {Props: letter('x').Props}, {Body: []byte{0}}, {Props: make([]api.Prop, 9)}, {Body: make([]byte, 99)}} {
			a.Note = n
			checkWrong(t, a, api.ErrForm)
		}
	}
}

// F1: notes that are wrong.
func TestWrongNote(t *testing.T) {
	tests := []struct {
		n    api.Note
		want api.Errno
	}{
		{api.Note{Props: make([]api.Prop, api.MaxProps+1)}, api.ErrMany},
		{api.Note{Props: []api.Prop{{Key: "", Kind: 1}}}, api.ErrName},
		{api.Note{Props: []api.Prop{{Key: "a", Kind: 4}}}, api.ErrKind},
		{api.Note{Props: []api.Prop{{Key: "a", Kind: api.PropFlag, N: 2}}}, api.ErrRange},
		{api.Note{Props: []api.Prop{{Key: "a", Kind: api.PropText, Text: "thirteen long"}}}, api.ErrMuch},
		{api.Note{Props: []api.Prop{{Key: "a", Kind: api.PropInt, Text: "x"}}}, api.ErrForm},
		{api.Note{Body: make([]byte, api.MaxBody+1)}, api.ErrMuch},
	}
	for _, c := range tests {
		checkWrong(t, api.Ask{Kind: api.AskPut, Queue: "q", Note: c.n}, c.want)
		checkWrong(t, api.Ask{Kind: api.AskPut, Queue: "Q", Note: c.n}, api.ErrName)
		checkWrong(t, api.Ask{Kind: api.AskPut, Queue: "q", N: 1, Note: c.n}, api.ErrRange)
	}
}
