package frames_test

import (
	"slices"
	"testing"

	"trivetgate/api"
	"trivetgate/frames"
)

// G1: Wrong, of right answers, which are only read.
func TestRight(t *testing.T) {
	for _, s := range rightSays() {
		given := s
		given.Note = roomyNote(s.Note)
		if err := frames.Wrong(given); err != api.OK {
			t.Errorf("%v: %d is told", s, err)
		}
		if !sameSay(given, s) {
			t.Errorf("the answer was changed: %v", given)
		}
		checkNoteRoom(t, given.Note)
	}
}

// plain is a right answer of each kind.
func plain() []api.Say {
	return []api.Say{{Kind: api.SayOK}, {Kind: api.SayItem, N: 3, M: 1, Note: letter('x')}, {Kind: api.SayNone}, {Kind: api.SayErr, Err: api.ErrNone}}
}

func checkWrong(t *testing.T, s api.Say, want api.Errno) {
	t.Helper()
	if err := frames.Wrong(s); err != want {
		t.Errorf("%v: %d is told, not %d", s, err, want)
	}
}

// strayNotes are notes, right and wrong ones.
func strayNotes() []api.Note {
	return []api.Note{letter('x'), {Props: letter('x').Props}, {Body: []byte{0}}, {Props: make([]api.Prop, 9)}, {Body: make([]byte, 99)}}
}

// G1: kinds, ahead of all else.
func TestWrongKind(t *testing.T) {
	for _, kind := range append([]int{0, 5, 6, 255}, outer...) {
		checkWrong(t, api.Say{Kind: kind}, api.ErrKind)
		checkWrong(t, api.Say{Kind: kind, N: -1, M: 9, Err: 99, Note: letter('x')}, api.ErrKind)
	}
}

// withStray: s is wrong by a number, whatever note it has.
func withStray(t *testing.T, s api.Say) {
	t.Helper()
	checkWrong(t, s, api.ErrRange)
	for _, n := range strayNotes() {
		s.Note = n
		checkWrong(t, s, api.ErrRange)
	}
}

// G1: N.
func TestWrongN(t *testing.T) {
	for _, s := range plain() {
		numbers := []int{1, 2, api.MaxInt}
		if s.Kind == api.SayItem {
			numbers = []int{0, -api.MaxInt, api.MaxInt + 1, 1 << 31}
		}
		for _, s.N = range append(numbers, -1, 1<<32, 1<<63-1, -1<<63) {
			withStray(t, s)
		}
	}
}

// G1: M.
func TestWrongM(t *testing.T) {
	for _, s := range plain() {
		numbers := []int{1, api.MaxTries}
		if s.Kind == api.SayItem {
			numbers = []int{api.MaxTries + 1, 255}
		}
		for _, s.M = range append(numbers, outer...) {
			withStray(t, s)
		}
	}
}

// G1: Err.
func TestWrongErr(t *testing.T) {
	for _, s := range plain() {
		errs := []int{int(api.ErrKind), int(api.ErrNone), int(api.ErrShut)}
		if s.Kind == api.SayErr {
			errs = []int{int(api.OK)}
		}
		for _, err := range slices.Concat(errs, []int{int(api.ErrShut) + 1, 255}, outer) {
			s.Err = api.Errno(err)
			withStray(t, s)
		}
	}
}

// G1: notes that are not to be there, be they right or wrong.
func TestStrayNote(t *testing.T) {
	for _, s := range plain() {
		if s.Kind == api.SayItem {
			continue
		}
		for _, s.Note = range strayNotes() {
			checkWrong(t, s, api.ErrForm)
		}
	}
}

// wrongNotes are notes with something wrong, and what that is.
func wrongNotes() map[api.Errno][]api.Note {
	of := func(p api.Prop) api.Note { return api.Note{Props: []api.Prop{{Key: "a", Kind: api.PropInt}, p}} }
	return map[api.Errno][]api.Note{
		api.ErrMany:  {{Props: make([]api.Prop, api.MaxProps+1)}},
		api.ErrName:  {of(api.Prop{Kind: 1}), of(api.Prop{Key: "A", Kind: 9})},
		api.ErrKind:  {of(api.Prop{Key: "a", Kind: 4, N: 1 << 40})},
		api.ErrRange: {of(api.Prop{Key: "a", Kind: api.PropFlag, N: 2}), of(api.Prop{Key: "a", Kind: api.PropInt, N: api.MaxInt + 1})},
		api.ErrMuch:  {of(api.Prop{Key: "a", Kind: api.PropText, Text: "thirteen long"}), {Body: make([]byte, api.MaxBody+1)}},
		api.ErrForm:  {of(api.Prop{Key: "a", Kind: api.PropInt, Text: "x"}), of(api.Prop{Key: "a", Kind: api.PropText, N: 1})},
	}
}

// G1: notes that are wrong.
func TestWrongNote(t *testing.T) {
	for want, notes := range wrongNotes() {
		for _, n := range notes {
			checkWrong(t, api.Say{Kind: api.SayItem, N: 1, Note: n}, want)
			checkWrong(t, api.Say{Kind: api.SayItem, Note: n}, api.ErrRange)
		}
	}
}
