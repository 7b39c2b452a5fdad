package frames_test

import (
	"bytes"
	"math"
	"slices"
	"strings"
	"testing"

	"trivetgate/api"
	"trivetgate/frames"
	"trivetgate/note"
	"trivetgate/session"
)

// letter is a note with something in each of its lists.
func letter(c byte) api.Note {
	return api.Note{
		Props: []api.Prop{{Key: "k", Kind: api.PropText, Text: string(rune(c))}},
		Body:  []byte{c, c},
	}
}

// letterBytes is letter('z') as it is written.
const letterBytes = "\x01\x01k\x02\x01z\x02zz"

// largest is a right note with as much as may be in it.
func largest() api.Note {
	n := api.Note{Body: []byte(strings.Repeat("\xff", api.MaxBody))}
	for range api.MaxProps {
		n.Props = append(n.Props, api.Prop{Key: "abcdefgh", Kind: api.PropText, Text: strings.Repeat("\x00", api.MaxText)})
	}
	return n
}

// mixed is a note with a property of each kind.
func mixed() api.Note {
	return api.Note{
		Props: []api.Prop{{Key: "a", Kind: api.PropInt, N: -api.MaxInt}, {Key: "b", Kind: api.PropText}, {Key: "a", Kind: api.PropFlag, N: 1}},
		Body:  []byte("\r\n\x00"),
	}
}

// empty is a note whose lists are there, and have nothing in them.
func empty() api.Note {
	return api.Note{Props: []api.Prop{}, Body: []byte{}}
}

// rightAsks are right ones, of each kind, at its edges.
func rightAsks() []api.Ask {
	return []api.Ask{
		{Kind: api.AskPing}, {Kind: api.AskPing, Note: empty()},
		{Kind: api.AskMake, Queue: "q"}, {Kind: api.AskMake, Queue: "abcdefgh", N: api.MaxInt}, {Kind: api.AskMake, Queue: "q", N: 0x01020304},
		{Kind: api.AskDrop, Queue: "q"}, {Kind: api.AskDrop, Queue: "zzzzzzzz"},
		{Kind: api.AskPut, Queue: "q"}, {Kind: api.AskPut, Queue: "abcdefgh", Note: largest()}, {Kind: api.AskPut, Queue: "dead", Note: letter('x')}, {Kind: api.AskPut, Queue: "q", Note: mixed()}, {Kind: api.AskPut, Queue: "q", Note: empty()},
		{Kind: api.AskTake, Queue: "q"},
		{Kind: api.AskWait, Queue: "q", N: 1}, {Kind: api.AskWait, Queue: "q", N: api.MaxWait},
		{Kind: api.AskDone, N: 1}, {Kind: api.AskDone, N: api.MaxInt},
		{Kind: api.AskBack, N: 1}, {Kind: api.AskBack, N: api.MaxInt},
		{Kind: api.AskPurge, Queue: "q"},
	}
}

// rightSays are right ones, of each kind, at its edges.
func rightSays() []api.Say {
	says := []api.Say{
		{Kind: api.SayOK}, {Kind: api.SayOK, Note: empty()},
		{Kind: api.SayItem, N: 1}, {Kind: api.SayItem, N: api.MaxInt, M: api.MaxTries, Note: largest()}, {Kind: api.SayItem, N: 0x01020304, M: 1, Note: mixed()}, {Kind: api.SayItem, N: 2, M: 2, Note: empty()},
		{Kind: api.SayNone}, {Kind: api.SayNone, Note: empty()},
	}
	for err := api.ErrKind; err <= api.ErrShut; err++ {
		says = append(says, api.Say{Kind: api.SayErr, Err: err})
	}
	return says
}

func sameAsk(a, b api.Ask) bool {
	return a.Kind == b.Kind && a.Queue == b.Queue && a.N == b.N && note.Same(a.Note, b.Note)
}

func sameSay(a, b api.Say) bool {
	return a.Kind == b.Kind && a.N == b.N && a.M == b.M && a.Err == b.Err && note.Same(a.Note, b.Note)
}

// tongue is what asks and answers have in common, so that what holds for both is looked at once.
type tongue[T any] struct {
	name   string
	right  []T
	bytes  func(T) []byte
	read   func([]byte) (T, int, api.Errno)
	wrong  func(T) api.Errno
	same   func(a, b T) bool
	noteOf func(T) api.Note
	with   func(T, api.Note) T
}

func asks() tongue[api.Ask] {
	return tongue[api.Ask]{
		name: "Ask", right: rightAsks(), bytes: frames.AskBytes, read: frames.Ask, wrong: session.Wrong, same: sameAsk,
		noteOf: func(a api.Ask) api.Note { return a.Note },
		with:   func(a api.Ask, n api.Note) api.Ask { a.Note = n; return a },
	}
}

func says() tongue[api.Say] {
	return tongue[api.Say]{
		name: "Say", right: rightSays(), bytes: frames.SayBytes, read: frames.Say, wrong: frames.Wrong, same: sameSay,
		noteOf: func(s api.Say) api.Note { return s.Note },
		with:   func(s api.Say, n api.Note) api.Say { s.Note = n; return s },
	}
}

// refused: b is answered with want, and nothing beside it.
func (x tongue[T]) refused(t *testing.T, b []byte, want api.Errno) {
	t.Helper()
	var none T
	got, k, err := x.read(b)
	if err != want {
		t.Errorf("%s(%q) tells %d, not %d", x.name, b, err, want)
	}
	if k != 0 || !x.same(got, none) {
		t.Errorf("%s(%q) answers %v and %d beside an error", x.name, b, got, k)
	}
}

// honest: what is answered is right, and just so written; or an error of those that may be told of b, and nothing beside it; b is only read.
func (x tongue[T]) honest(t *testing.T, b []byte) {
	t.Helper()
	given := withRoom(b, roomByte)
	got, k, err := x.read(given)
	if !bytes.Equal(given, b) || behind(given) != roomByte {
		t.Errorf("%s(%q) changed what it was handed", x.name, b)
	}
	want, whole := size(b)
	switch {
	case !whole:
		x.refused(t, b, want)
	case err != api.OK:
		if err == api.ErrMore || err < api.OK || err > api.ErrShut {
			t.Errorf("%s(%q) tells %d of a whole frame", x.name, b, err)
		}
		x.refused(t, b, err)
	case k != 2+int(b[0])*256+int(b[1]) || x.wrong(got) != api.OK || !bytes.Equal(x.bytes(got), b[:k]):
		t.Errorf("%s(%q) answers %v, %d", x.name, b, got, k)
	}
}

// size tells whether b begins with a whole frame of a size that may be; else what is told.
func size(b []byte) (api.Errno, bool) {
	switch {
	case len(b) < 2:
		return api.ErrMore, false
	case int(b[0])*256+int(b[1]) > api.MaxIn-2:
		return api.ErrMuch, false
	case len(b)-2 < int(b[0])*256+int(b[1]):
		return api.ErrMore, false
	}
	return api.OK, true
}

// framed answers in behind its size.
func framed(in string) []byte {
	return append([]byte{byte(len(in) / 256), byte(len(in) % 256)}, in...)
}

// What stands in spare room, where nobody may look at it or change it.
var (
	roomProp = api.Prop{Key: "room", Kind: 9}
	roomByte = byte(0xAA)
)

// withRoom answers a copy of l with room behind it.
func withRoom[T any](l []T, room T) []T {
	return append(slices.Clone(l), room)[:len(l)]
}

// behind answers the first entry of a list's spare room.
func behind[T any](l []T) T {
	return l[:len(l)+1][len(l)]
}

func roomyNote(n api.Note) api.Note {
	return api.Note{Props: withRoom(n.Props, roomProp), Body: withRoom(n.Body, roomByte)}
}

func checkNoteRoom(t *testing.T, n api.Note) {
	t.Helper()
	if behind(n.Props) != roomProp || behind(n.Body) != roomByte {
		t.Errorf("the spare room of a note was changed: %v, %v", behind(n.Props), behind(n.Body))
	}
}

// The spoilers change all that there is, and what is behind it: whoever shares memory with it is changed too.
func spoilNote(n api.Note) {
	for k := range n.Props {
		n.Props[k] = api.Prop{Key: "spoilt"}
	}
	spoilBytes(n.Body)
	_ = append(n.Props, api.Prop{Key: "more"})
}

func spoilBytes(b []byte) {
	for k := range b {
		b[k] ^= 0x55
	}
	_ = append(b, 1)
}

// outer are numbers that are none of a kind, of a byte, or of four bytes.
var outer = []int{-1, 256, 257, 1 << 32, 1<<32 + 1, math.MaxInt, math.MinInt}
