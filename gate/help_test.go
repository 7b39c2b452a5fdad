package gate_test

import (
	"math"
	"slices"
	"strings"
	"testing"

	"trivetgate/api"
	"trivetgate/frames"
	"trivetgate/gate"
	"trivetgate/lines"
	"trivetgate/note"
	"trivetgate/web"
)

var tongues = []int{api.TongueFrames, api.TongueLines, api.TongueWeb}

// noTongues are numbers that are no tongue's.
var noTongues = []int{0, -1, 4, 5, 255, 256 + api.TongueLines, 1<<32 + api.TongueLines, math.MaxInt, math.MinInt}

// mixed is a note with a property of each kind, and with all that ends something in any tongue.
func mixed() api.Note {
	return api.Note{
		Props: []api.Prop{{Key: "a", Kind: api.PropInt, N: -7}, {Key: "b", Kind: api.PropText, Text: "x =#"}, {Key: "a", Kind: api.PropFlag, N: 1}},
		Body:  []byte("b\r\n\r\n"),
	}
}

const (
	mixedFrame = "\x03\x01a\x01\xff\xff\xff\xf9\x01b\x02\x04x =#\x01a\x03\x00\x00\x00\x01\x05b\r\n\r\n"
	mixedLine  = "a=-7 b=$78203d23 a=!1 #620d0a0d0a"
	mixedPage  = "p-a: -7\r\np-b: $78203d23\r\np-a: !1\r\ncontent-length: 5\r\n\r\nb\r\n\r\n"
	noNotePage = "content-length: 0\r\n\r\n"
)

// largest is a right note with as much as may be in it.
func largest() api.Note {
	n := api.Note{Body: []byte(strings.Repeat("\n", api.MaxBody))}
	for range api.MaxProps {
		n.Props = append(n.Props, api.Prop{Key: "abcdefgh", Kind: api.PropText, Text: strings.Repeat("\x00", api.MaxText)})
	}
	return n
}

// written is something right, and what it is in each tongue, from TongueFrames on.
type written[T any] struct {
	is T
	as [3]string
}

func (w written[T]) in(tongue int) string {
	return w.as[tongue-api.TongueFrames]
}

func askLine(line string) string {
	return line + " HTTP/1.1\r\n" + noNotePage
}

// writtenAsks are right asks of each kind.
func writtenAsks() []written[api.Ask] {
	return []written[api.Ask]{
		{api.Ask{Kind: api.AskPing}, [3]string{"\x00\x06\x01\x00\x00\x00\x00\x00", "ping\n", askLine("GET /ping")}},
		{api.Ask{Kind: api.AskMake, Queue: "q", N: 3}, [3]string{"\x00\x07\x02\x01q\x00\x00\x00\x03", "make q 3\n", askLine("PUT /queue/q/3")}},
		{api.Ask{Kind: api.AskDrop, Queue: "abcdefgh"}, [3]string{"\x00\x0e\x03\x08abcdefgh\x00\x00\x00\x00", "drop abcdefgh\n", askLine("DELETE /queue/abcdefgh")}},
		{api.Ask{Kind: api.AskPut, Queue: "q"}, [3]string{"\x00\x09\x04\x01q\x00\x00\x00\x00\x00\x00", "put q #\n", askLine("POST /queue/q")}},
		{
			api.Ask{Kind: api.AskPut, Queue: "q", Note: mixed()},
			[3]string{"\x00\x24\x04\x01q\x00\x00\x00\x00" + mixedFrame, "put q " + mixedLine + "\n", "POST /queue/q HTTP/1.1\r\n" + mixedPage},
		},
		{api.Ask{Kind: api.AskTake, Queue: "q"}, [3]string{"\x00\x07\x05\x01q\x00\x00\x00\x00", "take q\n", askLine("GET /queue/q")}},
		{api.Ask{Kind: api.AskWait, Queue: "q", N: 9}, [3]string{"\x00\x07\x06\x01q\x00\x00\x00\x09", "wait q 9\n", askLine("GET /queue/q/9")}},
		{api.Ask{Kind: api.AskDone, N: 1}, [3]string{"\x00\x06\x07\x00\x00\x00\x00\x01", "done 1\n", askLine("DELETE /tag/1")}},
		{api.Ask{Kind: api.AskBack, N: api.MaxInt}, [3]string{"\x00\x06\x08\x00\x40\x00\x00\x00", "back 1073741824\n", askLine("POST /tag/1073741824")}},
		{api.Ask{Kind: api.AskPurge, Queue: "q"}, [3]string{"\x00\x07\x09\x01q\x00\x00\x00\x00", "purge q\n", askLine("DELETE /queue/q/items")}},
	}
}

// writtenSays are right answers of each kind.
func writtenSays() []written[api.Say] {
	return []written[api.Say]{
		{api.Say{Kind: api.SayOK}, [3]string{"\x00\x07\x01\x00\x00\x00\x00\x00\x00", "+ok\n", "HTTP/1.1 200 OK\r\n" + noNotePage}},
		{
			api.Say{Kind: api.SayItem, N: 1},
			[3]string{"\x00\x09\x02\x00\x00\x00\x01\x00\x00\x00\x00", "+item 1 0 #\n", "HTTP/1.1 200 OK\r\ntag: 1\r\ntries: 0\r\n" + noNotePage},
		},
		{
			api.Say{Kind: api.SayItem, N: 3, M: 1, Note: mixed()},
			[3]string{"\x00\x24\x02\x00\x00\x00\x03\x01\x00" + mixedFrame, "+item 3 1 " + mixedLine + "\n", "HTTP/1.1 200 OK\r\ntag: 3\r\ntries: 1\r\n" + mixedPage},
		},
		{api.Say{Kind: api.SayNone}, [3]string{"\x00\x07\x03\x00\x00\x00\x00\x00\x00", "+none\n", "HTTP/1.1 204 None\r\n" + noNotePage}},
		{api.Say{Kind: api.SayErr, Err: api.ErrNone}, [3]string{"\x00\x07\x04\x00\x00\x00\x00\x00\x06", "-6\n", "HTTP/1.1 400 Wrong\r\nerror: 6\r\n" + noNotePage}},
		{api.Say{Kind: api.SayErr, Err: api.ErrShut}, [3]string{"\x00\x07\x04\x00\x00\x00\x00\x00\x0a", "-10\n", "HTTP/1.1 400 Wrong\r\nerror: 10\r\n" + noNotePage}},
	}
}

func sameAsk(a, b api.Ask) bool {
	return a.Kind == b.Kind && a.Queue == b.Queue && a.N == b.N && note.Same(a.Note, b.Note)
}

func sameSay(a, b api.Say) bool {
	return a.Kind == b.Kind && a.N == b.N && a.M == b.M && a.Err == b.Err && note.Same(a.Note, b.Note)
}

// side is what asks and answers have in common, so that what holds for both is looked at once.
type side[T any] struct {
	name  string
	right []written[T]
	bytes func(int, T) ([]byte, api.Errno)
	all   func(int, []byte) ([]T, []byte, api.Errno)
	same  func(a, b T) bool
	// first is how each tongue's own package reads one, from TongueFrames on.
	first [3]func([]byte) (T, int, api.Errno)
	note  func(*T) *api.Note
}

func asks() side[api.Ask] {
	return side[api.Ask]{
		name: "Asks", right: writtenAsks(), bytes: gate.AskBytes, all: anyAsks, same: sameAsk,
		first: [3]func([]byte) (api.Ask, int, api.Errno){frames.Ask, lines.Ask, web.Ask}, note: func(a *api.Ask) *api.Note { return &a.Note },
	}
}

func says() side[api.Say] {
	return side[api.Say]{
		name: "Says", right: writtenSays(), bytes: gate.SayBytes, all: gate.Says, same: sameSay,
		first: [3]func([]byte) (api.Say, int, api.Errno){frames.Say, lines.Say, web.Say}, note: func(s *api.Say) *api.Note { return &s.Note },
	}
}

func anyAsks(tongue int, b []byte) ([]api.Ask, []byte, api.Errno) {
	return gate.Asks(tongue, b, math.MaxInt)
}

// stream is all right ones, one behind the other, and ends tells where each of them ends.
func (x side[T]) stream(tongue int) (string, []int) {
	all, ends := "", []int(nil)
	for _, w := range x.right {
		all += w.in(tongue)
		ends = append(ends, len(all))
	}
	return all, ends
}

func (x side[T]) rights() []T {
	var out []T
	for _, w := range x.right {
		out = append(out, w.is)
	}
	return out
}

// answer is all that Asks and Says answer.
type answer[T any] struct {
	all  []T
	left string
	err  api.Errno
}

// check: got is answered as want is, and b is told.
func (x side[T]) check(t *testing.T, b string, got, want answer[T]) {
	t.Helper()
	if got.err != want.err || got.left != want.left || !slices.EqualFunc(got.all, want.all, x.same) {
		t.Errorf("%s of %q: %v, %q, %d, not %v, %q, %d", x.name, b, got.all, got.left, got.err, want.all, want.left, want.err)
	}
}

// comes: b is answered with want, and is only read.
func (x side[T]) comes(t *testing.T, tongue int, b string, want answer[T]) {
	t.Helper()
	given := withRoom([]byte(b), roomByte)
	all, left, err := x.all(tongue, given)
	if string(given) != b || behind(given) != roomByte {
		t.Errorf("%s of %q changed what it was handed", x.name, b)
	}
	x.check(t, b, answer[T]{all, string(left), err}, want)
}

// What stands in spare room, where nobody may look at it or change it.
var (
	roomProp = api.Prop{Key: "room", Kind: 9}
	roomByte = byte(0xAA)
)

// withRoom answers a copy of l with room behind it.
func withRoom[T any](l []T, room T) []T {
	return append(slices.Clone(l), room)[:len(l)]
}

// behind answers the first entry of a list's spare room.
func behind[T any](l []T) T {
	return l[:len(l)+1][len(l)]
}

func roomyNote(n api.Note) api.Note {
	return api.Note{Props: withRoom(n.Props, roomProp), Body: withRoom(n.Body, roomByte)}
}

// checkOnlyRead: a roomy note is as it was, and so is the room behind its lists.
func checkOnlyRead(t *testing.T, given, was api.Note) {
	t.Helper()
	if !note.Same(given, was) {
		t.Errorf("a note was changed: %v", given)
	}
	if behind(given.Props) != roomProp || behind(given.Body) != roomByte {
		t.Errorf("the spare room of a note was changed: %v, %v", behind(given.Props), behind(given.Body))
	}
}

// The spoilers change all that there is, and what is behind it: whoever shares memory with it is changed too.
func spoilNote(n api.Note) {
	for k := range n.Props {
		n.Props[k] = api.Prop{Key: "spoilt"}
	}
	spoilBytes(n.Body)
	_ = append(n.Props, api.Prop{Key: "more"})
}

func spoilBytes(b []byte) {
	for k := range b {
		b[k] ^= 0x55
	}
	_ = append(b, 1)
}
