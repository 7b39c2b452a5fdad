package lines_test

import (
	"bytes"
	"slices"
	"strings"
	"testing"

	"trivetgate/api"
	"trivetgate/frames"
	"trivetgate/lines"
	"trivetgate/note"
	"trivetgate/session"
)

// largest is a right note with as much as may be in it, and largestWords are its words.
func largest() api.Note {
	n := api.Note{Body: []byte(strings.Repeat("\xff", api.MaxBody))}
	for range api.MaxProps {
		n.Props = append(n.Props, api.Prop{Key: "abcdefgh", Kind: api.PropText, Text: strings.Repeat("\x00", api.MaxText)})
	}
	return n
}

var largestWords = strings.Repeat("abcdefgh=$"+strings.Repeat("00", api.MaxText)+" ", api.MaxProps) + "#" + strings.Repeat("ff", api.MaxBody)

// mixed is a note with a property of each kind, and all that separates words in its texts; mixedWords are its words.
func mixed() api.Note {
	return api.Note{
		Props: []api.Prop{{Key: "a", Kind: api.PropInt, N: -api.MaxInt}, {Key: "b", Kind: api.PropText, Text: " =#\n"}, {Key: "a", Kind: api.PropFlag, N: 1}},
		Body:  []byte("z\r\n\x00 "),
	}
}

const mixedWords = "a=-1073741824 b=$203d230a a=!1 #7a0d0a0020"

// empty is a note whose lists are there, and have nothing in them.
func empty() api.Note {
	return api.Note{Props: []api.Prop{}, Body: []byte{}}
}

// written is something right, and the line that it is.
type written[T any] struct {
	is   T
	line string
}

// askLines are right asks, of each kind, at its edges.
func askLines() []written[api.Ask] {
	return []written[api.Ask]{
		{api.Ask{Kind: api.AskPing}, "ping\n"},
		{api.Ask{Kind: api.AskPing, Note: empty()}, "ping\n"},
		{api.Ask{Kind: api.AskMake, Queue: "q"}, "make q 0\n"},
		{api.Ask{Kind: api.AskMake, Queue: "abcdefgh", N: api.MaxInt}, "make abcdefgh 1073741824\n"},
		{api.Ask{Kind: api.AskDrop, Queue: "q"}, "drop q\n"},
		{api.Ask{Kind: api.AskDrop, Queue: "zzzzzzzz"}, "drop zzzzzzzz\n"},
		{api.Ask{Kind: api.AskPut, Queue: "q"}, "put q #\n"},
		{api.Ask{Kind: api.AskPut, Queue: "q", Note: empty()}, "put q #\n"},
		{api.Ask{Kind: api.AskPut, Queue: "put", Note: mixed()}, "put put " + mixedWords + "\n"},
		{api.Ask{Kind: api.AskPut, Queue: "abcdefgh", Note: largest()}, "put abcdefgh " + largestWords + "\n"},
		{api.Ask{Kind: api.AskTake, Queue: "q"}, "take q\n"},
		{api.Ask{Kind: api.AskTake, Queue: "ping"}, "take ping\n"},
		{api.Ask{Kind: api.AskWait, Queue: "q", N: 1}, "wait q 1\n"},
		{api.Ask{Kind: api.AskWait, Queue: "q", N: api.MaxWait}, "wait q 9\n"},
		{api.Ask{Kind: api.AskDone, N: 1}, "done 1\n"},
		{api.Ask{Kind: api.AskDone, N: api.MaxInt}, "done 1073741824\n"},
		{api.Ask{Kind: api.AskBack, N: 1}, "back 1\n"},
		{api.Ask{Kind: api.AskBack, N: api.MaxInt}, "back 1073741824\n"},
		{api.Ask{Kind: api.AskPurge, Queue: "q"}, "purge q\n"},
	}
}

// sayLines are right answers, of each kind, at its edges.
func sayLines() []written[api.Say] {
	return []written[api.Say]{
		{api.Say{Kind: api.SayOK}, "+ok\n"},
		{api.Say{Kind: api.SayOK, Note: empty()}, "+ok\n"},
		{api.Say{Kind: api.SayItem, N: 1}, "+item 1 0 #\n"},
		{api.Say{Kind: api.SayItem, N: 2, M: 1, Note: mixed()}, "+item 2 1 " + mixedWords + "\n"},
		{api.Say{Kind: api.SayItem, N: api.MaxInt, M: api.MaxTries, Note: largest()}, "+item 1073741824 3 " + largestWords + "\n"},
		{api.Say{Kind: api.SayNone}, "+none\n"},
		{api.Say{Kind: api.SayErr, Err: api.ErrKind}, "-1\n"},
		{api.Say{Kind: api.SayErr, Err: api.ErrNone}, "-6\n"},
		{api.Say{Kind: api.SayErr, Err: api.ErrShut}, "-10\n"},
	}
}

func sameAsk(a, b api.Ask) bool {
	return a.Kind == b.Kind && a.Queue == b.Queue && a.N == b.N && note.Same(a.Note, b.Note)
}

func sameSay(a, b api.Say) bool {
	return a.Kind == b.Kind && a.N == b.N && a.M == b.M && a.Err == b.Err && note.Same(a.Note, b.Note)
}

// tongue is what asks and answers have in common, so that what holds for both is looked at once.
type tongue[T any] struct {
	name  string
	right []written[T]
	bytes func(T) []byte
	read  func([]byte) (T, int, api.Errno)
	wrong func(T) api.Errno
	same  func(a, b T) bool
	note  func(*T) *api.Note
	model model
}

func asks() tongue[api.Ask] {
	return tongue[api.Ask]{
		name: "Ask", right: askLines(), bytes: lines.AskBytes, read: lines.Ask, wrong: session.Wrong, same: sameAsk,
		note: func(a *api.Ask) *api.Note { return &a.Note }, model: askModel,
	}
}

func says() tongue[api.Say] {
	return tongue[api.Say]{
		name: "Say", right: sayLines(), bytes: lines.SayBytes, read: lines.Say, wrong: frames.Wrong, same: sameSay,
		note: func(s *api.Say) *api.Note { return &s.Note }, model: sayModel,
	}
}

// refused: b is answered with want, and nothing beside it.
func (x tongue[T]) refused(t *testing.T, b string, want api.Errno) {
	t.Helper()
	var none T
	got, k, err := x.read([]byte(b))
	if err != want {
		t.Errorf("%s(%q) tells %d, not %d", x.name, b, err, want)
	}
	if k != 0 || !x.same(got, none) {
		t.Errorf("%s(%q) answers %v and %d beside an error", x.name, b, got, k)
	}
}

// comes: the line at the beginning of b is read as want.
func (x tongue[T]) comes(t *testing.T, b string, want written[T]) {
	t.Helper()
	got, k, err := x.read([]byte(b))
	if err != api.OK || k != len(want.line) || !x.same(got, want.is) {
		t.Errorf("%s(%q) answers %v, %d, %d", x.name, b, got, k, err)
	}
}

// honest: b is answered as the model has it, and what is answered is right, and just so written; b is only read.
func (x tongue[T]) honest(t *testing.T, b string) {
	t.Helper()
	given := withRoom([]byte(b), roomByte)
	got, k, err := x.read(given)
	if string(given) != b || behind(given) != roomByte {
		t.Errorf("%s(%q) changed what it was handed", x.name, b)
	}
	want := x.model.tells(b)
	switch {
	case want != api.OK:
		x.refused(t, b, want)
	case err == api.ErrName || err == api.ErrRange || err == api.ErrMuch || err == api.ErrMany:
		x.refused(t, b, err) // which of them it must be is looked at where wrong ones are listed
	case err != api.OK || x.wrong(got) != api.OK || k != strings.Index(b, "\n")+1 || string(x.bytes(got)) != b[:k]:
		t.Errorf("%s(%q) answers %v, %d, %d", x.name, b, got, k, err)
	}
}

// What stands in spare room, where nobody may look at it or change it.
var (
	roomProp = api.Prop{Key: "room", Kind: 9}
	roomByte = byte(0xAA)
)

// withRoom answers a copy of l with room behind it.
func withRoom[T any](l []T, room T) []T {
	return append(slices.Clone(l), room)[:len(l)]
}

// behind answers the first entry of a list's spare room.
func behind[T any](l []T) T {
	return l[:len(l)+1][len(l)]
}

func roomyNote(n api.Note) api.Note {
	return api.Note{Props: withRoom(n.Props, roomProp), Body: withRoom(n.Body, roomByte)}
}

// checkOnlyRead: a roomy note is as it was, and so is the room behind its lists.
func checkOnlyRead(t *testing.T, given, was api.Note) {
	t.Helper()
	if !note.Same(given, was) {
		t.Errorf("a note was changed: %v", given)
	}
	if behind(given.Props) != roomProp || behind(given.Body) != roomByte {
		t.Errorf("the spare room of a note was changed: %v, %v", behind(given.Props), behind(given.Body))
	}
}

// The spoilers change all that there is, and what is behind it: whoever shares memory with it is changed too.
func spoilNote(n api.Note) {
	for k := range n.Props {
		n.Props[k] = api.Prop{Key: "spoilt"}
	}
	spoilBytes(n.Body)
	_ = append(n.Props, api.Prop{Key: "more"})
}

func spoilBytes(b []byte) {
	for k := range b {
		b[k] ^= 0x55
	}
	_ = append(b, 1)
}

// sharesNothing: neither of two lists of bytes changes with the other one.
func sharesNothing(t *testing.T, a, b []byte) {
	t.Helper()
	was := bytes.Clone(a)
	spoilBytes(b)
	if !bytes.Equal(a, was) {
		t.Errorf("%q became %q", was, a)
	}
}
