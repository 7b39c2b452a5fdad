package session_test

import (
	"bytes"
	"slices"
	"strings"
	"testing"

	"trivetgate/api"
	"trivetgate/journal"
	"trivetgate/note"
	"trivetgate/session"
)

// letter is a note with something in each of its lists.
func letter(c byte) api.Note {
	return api.Note{
		Props: []api.Prop{{Key: "k", Kind: api.PropText, Text: string(rune(c))}},
		Body:  []byte{c, c},
	}
}

// largest is a right note with as much as may be in it.
func largest() api.Note {
	n := api.Note{Body: []byte(strings.Repeat("\xff", api.MaxBody))}
	for range api.MaxProps {
		n.Props = append(n.Props, api.Prop{Key: "abcdefgh", Kind: api.PropText, Text: strings.Repeat("\x00", api.MaxText)})
	}
	return n
}

// state is all that an ask may change.
type state struct {
	h api.Hall
	l api.Log
	s api.Session
}

// sample has a hall of three queues, a log, and a session of three tags. Of what they speak: tag 2 of item 3, that was given once; tag 5 of item 6, that goes when it comes back; tag 7 of an item that is given to somebody else by now. work has two that wait, b none, and no room; dead has room for one more.
func sample() state {
	return state{
		h: api.Hall{Next: 10, Queues: []api.Queue{
			{Name: "work", Limit: 5, Items: []api.Item{
				{ID: 1, Turn: 4, Tries: 2, Note: letter('a')},
				{ID: 3, Turn: 1, Out: true, Due: 20, Note: letter('b')},
				{ID: 6, Turn: 7, Tries: 2, Out: true, Due: 10, Note: letter('c')},
				{ID: 9, Note: letter('d')},
			}},
			{Name: "dead", Limit: 2, Items: []api.Item{
				{ID: 4, Turn: 2, Tries: 2, Out: true, Due: 15, Note: letter('e')},
			}},
			{Name: "b", Limit: 1, Items: []api.Item{
				{ID: 7, Turn: 3, Tries: 1, Out: true, Due: 12, Note: letter('f')},
			}},
		}},
		l: api.Log{Bytes: []byte("a log"), Sure: 3},
		s: api.Session{Next: 8, Tags: []api.Tag{{N: 2, Queue: "work", ID: 3, Turn: 1}, {N: 5, Queue: "work", ID: 6, Turn: 7}, {N: 7, Queue: "b", ID: 7, Turn: 2}}},
	}
}

// The places of the sample's queues.
const (
	work = 0
	dead = 1
	b    = 2
)

// but answers the sample, changed.
func but(change func(x *state)) state {
	x := sample()
	change(&x)
	return x
}

// drop takes an item out of a queue of x itself.
func (x *state) drop(at, item int) {
	x.h.Queues[at].Items = slices.Delete(x.h.Queues[at].Items, item, item+1)
}

// lay puts an item behind a queue of x itself, and counts it.
func (x *state) lay(at int, n api.Note) {
	x.h.Queues[at].Items = append(x.h.Queues[at].Items, api.Item{ID: x.h.Next, Note: n})
	x.h.Next++
}

// forget takes a tag out of x itself.
func (x *state) forget(at int) {
	x.s.Tags = slices.Delete(x.s.Tags, at, at+1)
}

// write lays entries behind the log of x itself.
func (x *state) write(t *testing.T, es ...api.Entry) {
	t.Helper()
	l, err := journal.Write(x.l, es)
	if err != api.OK {
		t.Fatalf("Write tells %d", err)
	}
	x.l = l
}

// with answers the sample with a log of so many bytes.
func with(size int) state {
	return but(func(x *state) { x.l = api.Log{Bytes: bytes.Repeat([]byte{7}, size), Sure: size / 2} })
}

func goneOf(name string, id int) api.Entry {
	return api.Entry{Kind: api.EnGone, Queue: name, ID: id}
}

func putOf(name string, id int, n api.Note) api.Entry {
	return api.Entry{Kind: api.EnPut, Queue: name, ID: id, Note: n}
}

// answer is all that Do answers.
type answer struct {
	x   state
	say api.Say
	err api.Errno
}

func do(x state, a api.Ask, now int) answer {
	h, l, s, say, err := session.Do(x.h, x.l, x.s, a, now)
	return answer{x: state{h, l, s}, say: say, err: err}
}

func leave(x state) state {
	h, l := session.Leave(x.h, x.l, x.s)
	return state{h: h, l: l, s: x.s}
}

func sayErr(err api.Errno) api.Say {
	return api.Say{Kind: api.SayErr, Err: err}
}

// sayOK is what is said when all is done.
var sayOK = api.Say{Kind: api.SayOK}

func sameItem(a, b api.Item) bool {
	return a.ID == b.ID && a.Turn == b.Turn && a.Tries == b.Tries && a.Out == b.Out && a.Due == b.Due && note.Same(a.Note, b.Note)
}

func sameQueue(a, b api.Queue) bool {
	return a.Name == b.Name && a.Limit == b.Limit && slices.EqualFunc(a.Items, b.Items, sameItem)
}

func sameHall(a, b api.Hall) bool {
	return a.Next == b.Next && slices.EqualFunc(a.Queues, b.Queues, sameQueue)
}

func sameLog(a, b api.Log) bool {
	return a.Sure == b.Sure && bytes.Equal(a.Bytes, b.Bytes)
}

func sameSession(a, b api.Session) bool {
	return a.Next == b.Next && slices.Equal(a.Tags, b.Tags)
}

func sameSay(a, b api.Say) bool {
	return a.Kind == b.Kind && a.N == b.N && a.M == b.M && a.Err == b.Err && note.Same(a.Note, b.Note)
}

func checkState(t *testing.T, got, want state) {
	t.Helper()
	if !sameHall(got.h, want.h) {
		t.Errorf("the hall is %v, not %v", got.h, want.h)
	}
	if !sameLog(got.l, want.l) {
		t.Errorf("the log is %v, not %v", got.l, want.l)
	}
	if !sameSession(got.s, want.s) {
		t.Errorf("the session is %v, not %v", got.s, want.s)
	}
}

func check(t *testing.T, got, want answer) {
	t.Helper()
	checkState(t, got.x, want.x)
	if !sameSay(got.say, want.say) {
		t.Errorf("%v is said, not %v", got.say, want.say)
	}
	if got.err != want.err {
		t.Errorf("%d is told, not %d", got.err, want.err)
	}
}

// What stands in spare room, where nobody may look at it or change it.
var (
	roomProp  = api.Prop{Key: "room", Kind: 9}
	roomByte  = byte(0xAA)
	roomItem  = api.Item{ID: -77, Turn: 1}
	roomQueue = api.Queue{Name: "room", Limit: 7}
	roomTag   = api.Tag{N: 3, Queue: "work", ID: 3, Turn: 1}
)

// withRoom answers a copy of l with room behind it.
func withRoom[T any](l []T, room T) []T {
	return append(slices.Clone(l), room)[:len(l)]
}

// behind answers the first entry of a list's spare room.
func behind[T any](l []T) T {
	return l[:len(l)+1][len(l)]
}

func roomyNote(n api.Note) api.Note {
	return api.Note{Props: withRoom(n.Props, roomProp), Body: withRoom(n.Body, roomByte)}
}

func roomyAsk(a api.Ask) api.Ask {
	a.Note = roomyNote(a.Note)
	return a
}

func roomySession(s api.Session) api.Session {
	return api.Session{Tags: withRoom(s.Tags, roomTag), Next: s.Next}
}

// roomy answers x in lists that have spare room.
func roomy(x state) state {
	queues := withRoom(x.h.Queues, roomQueue)
	for k, q := range queues {
		queues[k].Items = withRoom(q.Items, roomItem)
		for j, i := range queues[k].Items {
			queues[k].Items[j].Note = roomyNote(i.Note)
		}
	}
	return state{
		h: api.Hall{Queues: queues, Next: x.h.Next},
		l: api.Log{Bytes: withRoom(x.l.Bytes, roomByte), Sure: x.l.Sure},
		s: roomySession(x.s),
	}
}

func checkNoteRoom(t *testing.T, n api.Note) {
	t.Helper()
	if behind(n.Props) != roomProp || behind(n.Body) != roomByte {
		t.Errorf("the spare room of a note was changed: %v, %v", behind(n.Props), behind(n.Body))
	}
}

// checkOnlyRead: a roomy state is as it was, and so is the room behind its lists.
func checkOnlyRead(t *testing.T, given, was state) {
	t.Helper()
	checkState(t, given, was)
	if !sameQueue(behind(given.h.Queues), roomQueue) || behind(given.l.Bytes) != roomByte || behind(given.s.Tags) != roomTag {
		t.Errorf("spare room was changed: %v, %v, %v", behind(given.h.Queues), behind(given.l.Bytes), behind(given.s.Tags))
	}
	for _, q := range given.h.Queues {
		if !sameItem(behind(q.Items), roomItem) {
			t.Errorf("the spare room behind items was changed: %v", behind(q.Items))
		}
		for _, i := range q.Items {
			checkNoteRoom(t, i.Note)
		}
	}
}

func checkAskOnlyRead(t *testing.T, given, was api.Ask) {
	t.Helper()
	if given.Kind != was.Kind || given.Queue != was.Queue || given.N != was.N || !note.Same(given.Note, was.Note) {
		t.Errorf("the ask was changed: %v", given)
	}
	checkNoteRoom(t, given.Note)
}

// The spoilers change all that there is, and what is behind it: whoever shares memory with it is changed too.
func spoilNote(n api.Note) {
	for k := range n.Props {
		n.Props[k] = api.Prop{Key: "spoilt"}
	}
	spoilBytes(n.Body)
	_ = append(n.Props, api.Prop{Key: "more"})
}

func spoilBytes(b []byte) {
	for k := range b {
		b[k] ^= 0x55
	}
	_ = append(b, 1)
}

func spoilSession(s api.Session) {
	for k := range s.Tags {
		s.Tags[k] = api.Tag{N: -1}
	}
	_ = append(s.Tags, api.Tag{N: -2})
}

func spoil(x state) {
	for k, q := range x.h.Queues {
		for j, i := range q.Items {
			spoilNote(i.Note)
			q.Items[j] = api.Item{ID: -1, Due: -1}
		}
		_ = append(q.Items, api.Item{ID: -2})
		x.h.Queues[k] = api.Queue{Name: "spoilt"}
	}
	_ = append(x.h.Queues, api.Queue{Name: "more"})
	spoilBytes(x.l.Bytes)
	spoilSession(x.s)
}
