package web_test

import (
	"bytes"
	"slices"
	"strings"
	"testing"

	"trivetgate/api"
	"trivetgate/frames"
	"trivetgate/note"
	"trivetgate/session"
	"trivetgate/web"
)

const noBody = "content-length: 0"

// sheet is a page of those lines, and that body.
func sheet(body string, lines ...string) string {
	return strings.Join(lines, "\r\n") + "\r\n\r\n" + body
}

// largest is a right note with as much as may be in it, and largestHeads are its heads.
func largest() api.Note {
	n := api.Note{Body: []byte(strings.Repeat("\n", api.MaxBody))}
	for range api.MaxProps {
		n.Props = append(n.Props, api.Prop{Key: "abcdefgh", Kind: api.PropText, Text: strings.Repeat("\x00", api.MaxText)})
	}
	return n
}

const (
	largestHead  = "p-abcdefgh: $000000000000000000000000"
	largestHeads = largestHead + "\r\n" + largestHead + "\r\n" + largestHead + "\r\n" + largestHead + "\r\ncontent-length: 40"
)

// mixed is a note with a property of each kind, and all that parts a page in its texts.
func mixed() api.Note {
	return api.Note{
		Props: []api.Prop{{Key: "a", Kind: api.PropInt, N: -api.MaxInt}, {Key: "b", Kind: api.PropText, Text: " :/\r\n"}, {Key: "a", Kind: api.PropFlag, N: 1}},
		Body:  []byte(mixedBody),
	}
}

const (
	mixedHeads = "p-a: -1073741824\r\np-b: $203a2f0d0a\r\np-a: !1\r\ncontent-length: 10"
	mixedBody  = "z\r\n\r\n\x00 a: "
)

// empty is a note whose lists are there, and have nothing in them.
func empty() api.Note {
	return api.Note{Props: []api.Prop{}, Body: []byte{}}
}

// written is something right, and the page that it is.
type written[T any] struct {
	is   T
	page string
}

// askPages are right asks, of each kind, at its edges.
func askPages() []written[api.Ask] {
	return []written[api.Ask]{
		{api.Ask{Kind: api.AskPing}, sheet("", "GET /ping HTTP/1.1", noBody)},
		{api.Ask{Kind: api.AskPing, Note: empty()}, sheet("", "GET /ping HTTP/1.1", noBody)},
		{api.Ask{Kind: api.AskMake, Queue: "q"}, sheet("", "PUT /queue/q/0 HTTP/1.1", noBody)},
		{api.Ask{Kind: api.AskMake, Queue: "abcdefgh", N: api.MaxInt}, sheet("", "PUT /queue/abcdefgh/1073741824 HTTP/1.1", noBody)},
		{api.Ask{Kind: api.AskDrop, Queue: "q"}, sheet("", "DELETE /queue/q HTTP/1.1", noBody)},
		{api.Ask{Kind: api.AskDrop, Queue: "items"}, sheet("", "DELETE /queue/items HTTP/1.1", noBody)},
		{api.Ask{Kind: api.AskPut, Queue: "q"}, sheet("", "POST /queue/q HTTP/1.1", noBody)},
		{api.Ask{Kind: api.AskPut, Queue: "q", Note: empty()}, sheet("", "POST /queue/q HTTP/1.1", noBody)},
		{api.Ask{Kind: api.AskPut, Queue: "queue", Note: mixed()}, sheet(mixedBody, "POST /queue/queue HTTP/1.1", mixedHeads)},
		{api.Ask{Kind: api.AskPut, Queue: "abcdefgh", Note: largest()}, sheet(strings.Repeat("\n", 40), "POST /queue/abcdefgh HTTP/1.1", largestHeads)},
		{api.Ask{Kind: api.AskTake, Queue: "q"}, sheet("", "GET /queue/q HTTP/1.1", noBody)},
		{api.Ask{Kind: api.AskTake, Queue: "ping"}, sheet("", "GET /queue/ping HTTP/1.1", noBody)},
		{api.Ask{Kind: api.AskWait, Queue: "q", N: 1}, sheet("", "GET /queue/q/1 HTTP/1.1", noBody)},
		{api.Ask{Kind: api.AskWait, Queue: "tag", N: api.MaxWait}, sheet("", "GET /queue/tag/9 HTTP/1.1", noBody)},
		{api.Ask{Kind: api.AskDone, N: 1}, sheet("", "DELETE /tag/1 HTTP/1.1", noBody)},
		{api.Ask{Kind: api.AskDone, N: api.MaxInt}, sheet("", "DELETE /tag/1073741824 HTTP/1.1", noBody)},
		{api.Ask{Kind: api.AskBack, N: 1}, sheet("", "POST /tag/1 HTTP/1.1", noBody)},
		{api.Ask{Kind: api.AskBack, N: api.MaxInt}, sheet("", "POST /tag/1073741824 HTTP/1.1", noBody)},
		{api.Ask{Kind: api.AskPurge, Queue: "q"}, sheet("", "DELETE /queue/q/items HTTP/1.1", noBody)},
		{api.Ask{Kind: api.AskPurge, Queue: "items"}, sheet("", "DELETE /queue/items/items HTTP/1.1", noBody)},
	}
}

// sayPages are right answers, of each kind, at its edges.
func sayPages() []written[api.Say] {
	return []written[api.Say]{
		{api.Say{Kind: api.SayOK}, sheet("", "HTTP/1.1 200 OK", noBody)},
		{api.Say{Kind: api.SayOK, Note: empty()}, sheet("", "HTTP/1.1 200 OK", noBody)},
		{api.Say{Kind: api.SayItem, N: 1}, sheet("", "HTTP/1.1 200 OK", "tag: 1", "tries: 0", noBody)},
		{api.Say{Kind: api.SayItem, N: 2, M: 1, Note: mixed()}, sheet(mixedBody, "HTTP/1.1 200 OK", "tag: 2", "tries: 1", mixedHeads)},
		{api.Say{Kind: api.SayItem, N: api.MaxInt, M: api.MaxTries, Note: largest()}, sheet(strings.Repeat("\n", 40), "HTTP/1.1 200 OK", "tag: 1073741824", "tries: 3", largestHeads)},
		{api.Say{Kind: api.SayNone}, sheet("", "HTTP/1.1 204 None", noBody)},
		{api.Say{Kind: api.SayErr, Err: api.ErrKind}, sheet("", "HTTP/1.1 400 Wrong", "error: 1", noBody)},
		{api.Say{Kind: api.SayErr, Err: api.ErrShut}, sheet("", "HTTP/1.1 400 Wrong", "error: 10", noBody)},
	}
}

func sameAsk(a, b api.Ask) bool {
	return a.Kind == b.Kind && a.Queue == b.Queue && a.N == b.N && note.Same(a.Note, b.Note)
}

func sameSay(a, b api.Say) bool {
	return a.Kind == b.Kind && a.N == b.N && a.M == b.M && a.Err == b.Err && note.Same(a.Note, b.Note)
}

// tongue is what asks and answers have in common, so that what holds for both is looked at once.
type tongue[T any] struct {
	name  string
	right []written[T]
	bytes func(T) []byte
	read  func([]byte) (T, int, api.Errno)
	wrong func(T) api.Errno
	same  func(a, b T) bool
	note  func(*T) *api.Note
	model func(modelPage) (T, api.Errno)
	// strange is what is told of a first line that is one word.
	strange api.Errno
}

func asks() tongue[api.Ask] {
	return tongue[api.Ask]{
		name: "Ask", right: askPages(), bytes: web.AskBytes, read: web.Ask, wrong: session.Wrong, same: sameAsk,
		note: func(a *api.Ask) *api.Note { return &a.Note }, model: modelAsk, strange: api.ErrForm,
	}
}

func says() tongue[api.Say] {
	return tongue[api.Say]{
		name: "Say", right: sayPages(), bytes: web.SayBytes, read: web.Say, wrong: frames.Wrong, same: sameSay,
		note: func(s *api.Say) *api.Note { return &s.Note }, model: modelSay, strange: api.ErrKind,
	}
}

// refused: b is answered with want, and nothing beside it.
func (x tongue[T]) refused(t *testing.T, b string, want api.Errno) {
	t.Helper()
	var none T
	got, k, err := x.read([]byte(b))
	if err != want {
		t.Errorf("%s(%q) tells %d, not %d", x.name, b, err, want)
	}
	if k != 0 || !x.same(got, none) {
		t.Errorf("%s(%q) answers %v and %d beside an error", x.name, b, got, k)
	}
}

// comes: the page at the beginning of b is read as want.
func (x tongue[T]) comes(t *testing.T, b string, want written[T]) {
	t.Helper()
	got, k, err := x.read([]byte(b))
	if err != api.OK || k != len(want.page) || !x.same(got, want.is) {
		t.Errorf("%s(%q) answers %v, %d, %d", x.name, b, got, k, err)
	}
}

// honest: b is answered as the model has it, and what is answered can be written anew, of the same lines; b is only read.
func (x tongue[T]) honest(t *testing.T, b string) {
	t.Helper()
	given := withRoom([]byte(b), roomByte)
	got, k, err := x.read(given)
	if string(given) != b || behind(given) != roomByte {
		t.Errorf("%s(%q) changed what it was handed", x.name, b)
	}
	want, size, told := x.told(b)
	switch {
	case told != api.OK:
		x.refused(t, b, told)
	case err != api.OK || k != size || !x.same(got, want):
		t.Errorf("%s(%q) answers %v, %d, %d, not %v, %d", x.name, b, got, k, err, want, size)
	case !sameLines(string(x.bytes(got)), b[:k]):
		t.Errorf("%s(%q) answers %v, which is %q", x.name, b, got, x.bytes(got))
	}
}

// sameLines: heads may stand in another order, but there are no others.
func sameLines(a, b string) bool {
	sorted := func(s string) []string {
		lines := strings.Split(s, "\r\n")
		slices.Sort(lines)
		return lines
	}
	return slices.Equal(sorted(a), sorted(b))
}

// What stands in spare room, where nobody may look at it or change it.
var (
	roomProp = api.Prop{Key: "room", Kind: 9}
	roomByte = byte(0xAA)
)

// withRoom answers a copy of l with room behind it.
func withRoom[T any](l []T, room T) []T {
	return append(slices.Clone(l), room)[:len(l)]
}

// behind answers the first entry of a list's spare room.
func behind[T any](l []T) T {
	return l[:len(l)+1][len(l)]
}

func roomyNote(n api.Note) api.Note {
	return api.Note{Props: withRoom(n.Props, roomProp), Body: withRoom(n.Body, roomByte)}
}

// checkOnlyRead: a roomy note is as it was, and so is the room behind its lists.
func checkOnlyRead(t *testing.T, given, was api.Note) {
	t.Helper()
	if !note.Same(given, was) {
		t.Errorf("a note was changed: %v", given)
	}
	if behind(given.Props) != roomProp || behind(given.Body) != roomByte {
		t.Errorf("the spare room of a note was changed: %v, %v", behind(given.Props), behind(given.Body))
	}
}

// The spoilers change all that there is, and what is behind it: whoever shares memory with it is changed too.
func spoilNote(n api.Note) {
	for k := range n.Props {
		n.Props[k] = api.Prop{Key: "spoilt"}
	}
	spoilBytes(n.Body)
	_ = append(n.Props, api.Prop{Key: "more"})
}

func spoilBytes(b []byte) {
	for k := range b {
		b[k] ^= 0x55
	}
	_ = append(b, 1)
}

// sharesNothing: neither of two lists of bytes changes with the other one.
func sharesNothing(t *testing.T, a, b []byte) {
	t.Helper()
	was := bytes.Clone(a)
	spoilBytes(b)
	if !bytes.Equal(a, was) {
		t.Errorf("%q became %q", was, a)
	}
}
