package journal_test

import (
	"slices"
	"strings"
	"testing"

	"trivetgate/api"
	"trivetgate/note"
)

// letter is a note with something in each of its lists.
func letter(c byte) api.Note {
	return api.Note{
		Props: []api.Prop{{Key: "k", Kind: api.PropText, Text: string(rune(c))}},
		Body:  []byte{c, c},
	}
}

func makeOf(name string, limit int) api.Entry {
	return api.Entry{Kind: api.EnMake, Queue: name, N: limit}
}

func dropOf(name string) api.Entry {
	return api.Entry{Kind: api.EnDrop, Queue: name}
}

func putOf(name string, id int, n api.Note) api.Entry {
	return api.Entry{Kind: api.EnPut, Queue: name, ID: id, Note: n}
}

func goneOf(name string, id int) api.Entry {
	return api.Entry{Kind: api.EnGone, Queue: name, ID: id}
}

// longest is as long a name as an entry may have.
var longest = strings.Repeat("\xff", 100)

// largest is a right note with as much as may be in it.
func largest() api.Note {
	n := api.Note{Body: []byte(strings.Repeat("\xff", api.MaxBody))}
	for range api.MaxProps {
		n.Props = append(n.Props, api.Prop{Key: "abcdefgh", Kind: api.PropText, Text: strings.Repeat("\x00", api.MaxText)})
	}
	return n
}

// entries are right ones, of each kind, at its edges.
func entries() []api.Entry {
	return []api.Entry{
		makeOf("a", 3), makeOf("", 0), makeOf(longest, 255), makeOf("no key!", 9),
		dropOf("a"), dropOf(""), dropOf(longest),
		putOf("a", 4, letter('x')), putOf("", 0, api.Note{}), putOf(longest, 1000000, largest()), putOf("q", 70000, api.Note{Props: []api.Prop{}, Body: []byte{}}),
		goneOf("a", 4), goneOf("", 0), goneOf(longest, 1000000), goneOf("q", 258),
	}
}

func sameItem(a, b api.Item) bool {
	return a.ID == b.ID && a.Turn == b.Turn && a.Tries == b.Tries && a.Out == b.Out && a.Due == b.Due && note.Same(a.Note, b.Note)
}

func sameQueue(a, b api.Queue) bool {
	return a.Name == b.Name && a.Limit == b.Limit && slices.EqualFunc(a.Items, b.Items, sameItem)
}

func sameHall(a, b api.Hall) bool {
	return a.Next == b.Next && slices.EqualFunc(a.Queues, b.Queues, sameQueue)
}

func sameEntry(a, b api.Entry) bool {
	return a.Kind == b.Kind && a.Queue == b.Queue && a.N == b.N && a.ID == b.ID && note.Same(a.Note, b.Note)
}

func checkHall(t *testing.T, got, want api.Hall) {
	t.Helper()
	if !sameHall(got, want) {
		t.Errorf("the hall is %v, not %v", got, want)
	}
}

func checkEntries(t *testing.T, got, want []api.Entry) {
	t.Helper()
	if !slices.EqualFunc(got, want, sameEntry) {
		t.Errorf("the entries are %v, not %v", got, want)
	}
}

// What stands in spare room, where nobody may look at it or change it.
var (
	roomProp  = api.Prop{Key: "room", Kind: 9}
	roomByte  = byte(0xAA)
	roomItem  = api.Item{ID: -77, Turn: 1}
	roomQueue = api.Queue{Name: "room", Limit: 7}
	roomEntry = api.Entry{Kind: api.EnMake, Queue: "room", N: 7}
)

// withRoom answers a copy of l with room behind it.
func withRoom[T any](l []T, room T) []T {
	return append(slices.Clone(l), room)[:len(l)]
}

// behind answers the first entry of a list's spare room.
func behind[T any](l []T) T {
	return l[:len(l)+1][len(l)]
}

func roomyNote(n api.Note) api.Note {
	return api.Note{Props: withRoom(n.Props, roomProp), Body: withRoom(n.Body, roomByte)}
}

func roomyEntry(e api.Entry) api.Entry {
	e.Note = roomyNote(e.Note)
	return e
}

func roomyEntries(es []api.Entry) []api.Entry {
	out := withRoom(es, roomEntry)
	for k, e := range out {
		out[k] = roomyEntry(e)
	}
	return out
}

func roomyHall(h api.Hall) api.Hall {
	queues := withRoom(h.Queues, roomQueue)
	for k, q := range queues {
		queues[k].Items = withRoom(q.Items, roomItem)
		for j, i := range queues[k].Items {
			queues[k].Items[j].Note = roomyNote(i.Note)
		}
	}
	return api.Hall{Queues: queues, Next: h.Next}
}

func checkNoteRoom(t *testing.T, n api.Note) {
	t.Helper()
	if behind(n.Props) != roomProp || behind(n.Body) != roomByte {
		t.Errorf("the spare room of a note was changed: %v, %v", behind(n.Props), behind(n.Body))
	}
}

// checkOnlyRead: a roomy hall is as it was, and so is the room behind its lists.
func checkOnlyRead(t *testing.T, given, was api.Hall) {
	t.Helper()
	checkHall(t, given, was)
	if !sameQueue(behind(given.Queues), roomQueue) {
		t.Errorf("the spare room behind the queues was changed: %v", behind(given.Queues))
	}
	for _, q := range given.Queues {
		if !sameItem(behind(q.Items), roomItem) {
			t.Errorf("the spare room behind items was changed: %v", behind(q.Items))
		}
		for _, i := range q.Items {
			checkNoteRoom(t, i.Note)
		}
	}
}

// The spoilers change all that there is, and what is behind it: whoever shares memory with it is changed too.
func spoilNote(n api.Note) {
	for k := range n.Props {
		n.Props[k] = api.Prop{Key: "spoilt"}
	}
	spoilBytes(n.Body)
	_ = append(n.Props, api.Prop{Key: "more"})
}

func spoilBytes(b []byte) {
	for k := range b {
		b[k] ^= 0x55
	}
	_ = append(b, 1)
}

func spoilHall(h api.Hall) {
	for k, q := range h.Queues {
		for j, i := range q.Items {
			spoilNote(i.Note)
			q.Items[j] = api.Item{ID: -1, Due: -1}
		}
		_ = append(q.Items, api.Item{ID: -2})
		h.Queues[k] = api.Queue{Name: "spoilt"}
	}
	_ = append(h.Queues, api.Queue{Name: "more"})
}

func spoilEntries(es []api.Entry) {
	for k, e := range es {
		spoilNote(e.Note)
		es[k] = api.Entry{Kind: -1}
	}
	_ = append(es, api.Entry{Kind: -2})
}
