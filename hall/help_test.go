package hall_test

import (
	"slices"
	"testing"

	"trivetgate/api"
	"trivetgate/hall"
	"trivetgate/note"
)

// letter is a note with something in each of its lists.
func letter(c byte) api.Note {
	return api.Note{
		Props: []api.Prop{{Key: "k", Kind: api.PropText, Text: string(rune(c))}},
		Body:  []byte{c, c},
	}
}

// sample is a hall of three queues. Given are, with when they are due: of work 3 (20) and 6 (10), of dead 4 (15), of b 7 (12). 4 and 6 go when they come back. work has room for one more, dead too, b for none.
func sample() api.Hall {
	return api.Hall{Next: 10, Queues: []api.Queue{
		{Name: "work", Limit: 5, Items: []api.Item{
			{ID: 1, Turn: 4, Tries: 2, Note: letter('a')},
			{ID: 3, Turn: 1, Out: true, Due: 20, Note: letter('b')},
			{ID: 6, Turn: 7, Tries: 2, Out: true, Due: 10, Note: letter('c')},
			{ID: 9, Note: letter('d')},
		}},
		{Name: "dead", Limit: 2, Items: []api.Item{
			{ID: 4, Turn: 2, Tries: 2, Out: true, Due: 15, Note: letter('e')},
		}},
		{Name: "b", Limit: 1, Items: []api.Item{
			{ID: 7, Turn: 3, Tries: 1, Out: true, Due: 12, Note: letter('f')},
		}},
	}}
}

// The places of the sample's queues.
const (
	work = 0
	dead = 1
	b    = 2
)

// but answers the sample, changed.
func but(change func(h *api.Hall)) api.Hall {
	h := sample()
	change(&h)
	return h
}

// drop takes an item out of a queue of h itself.
func drop(h *api.Hall, at, item int) {
	h.Queues[at].Items = slices.Delete(h.Queues[at].Items, item, item+1)
}

// lay puts an item behind a queue of h itself, and counts it.
func lay(h *api.Hall, at int, n api.Note) {
	h.Queues[at].Items = append(h.Queues[at].Items, api.Item{ID: h.Next, Note: n})
	h.Next++
}

// told is all that a call answers.
type told struct {
	h    api.Hall
	es   []api.Entry
	item api.Item
	err  api.Errno
}

func tell(h api.Hall, es []api.Entry, err api.Errno) told {
	return told{h: h, es: es, err: err}
}

func tellItem(h api.Hall, item api.Item, err api.Errno) told {
	return told{h: h, item: item, err: err}
}

func tellTick(h api.Hall, es []api.Entry) told {
	return told{h: h, es: es}
}

func goneOf(name string, id int) api.Entry {
	return api.Entry{Kind: api.EnGone, Queue: name, ID: id}
}

func putOf(name string, id int, n api.Note) api.Entry {
	return api.Entry{Kind: api.EnPut, Queue: name, ID: id, Note: n}
}

func sameItem(a, b api.Item) bool {
	return a.ID == b.ID && a.Turn == b.Turn && a.Tries == b.Tries && a.Out == b.Out && a.Due == b.Due && note.Same(a.Note, b.Note)
}

func sameQueue(a, b api.Queue) bool {
	return a.Name == b.Name && a.Limit == b.Limit && slices.EqualFunc(a.Items, b.Items, sameItem)
}

func sameHall(a, b api.Hall) bool {
	return a.Next == b.Next && slices.EqualFunc(a.Queues, b.Queues, sameQueue)
}

func sameEntry(a, b api.Entry) bool {
	return a.Kind == b.Kind && a.Queue == b.Queue && a.N == b.N && a.ID == b.ID && note.Same(a.Note, b.Note)
}

func check(t *testing.T, got, want told) {
	t.Helper()
	if got.err != want.err {
		t.Errorf("%d is told, not %d", got.err, want.err)
	}
	if !sameHall(got.h, want.h) {
		t.Errorf("the hall is %v, not %v", got.h, want.h)
	}
	if !slices.EqualFunc(got.es, want.es, sameEntry) {
		t.Errorf("the entries are %v, not %v", got.es, want.es)
	}
	if !sameItem(got.item, want.item) {
		t.Errorf("the item is %v, not %v", got.item, want.item)
	}
}

// checkErr: err is told, and all else is zero.
func checkErr(t *testing.T, got told, err api.Errno) {
	t.Helper()
	check(t, got, told{err: err})
}

// What stands in spare room, where nobody may look at it or change it.
var (
	roomProp  = api.Prop{Key: "room", Kind: 9}
	roomByte  = byte(0xAA)
	roomItem  = api.Item{ID: -77, Turn: 1}
	roomQueue = api.Queue{Name: "room", Limit: 7}
)

// roomyNote answers n in lists that have spare room.
func roomyNote(n api.Note) api.Note {
	props := append(slices.Clone(n.Props), roomProp)
	body := append(slices.Clone(n.Body), roomByte)
	return api.Note{Props: props[:len(n.Props)], Body: body[:len(n.Body)]}
}

// roomy answers h in lists that have spare room.
func roomy(h api.Hall) api.Hall {
	var queues []api.Queue
	for _, q := range h.Queues {
		var items []api.Item
		for _, i := range q.Items {
			i.Note = roomyNote(i.Note)
			items = append(items, i)
		}
		q.Items = append(items, roomItem)[:len(items)]
		queues = append(queues, q)
	}
	h.Queues = append(queues, roomQueue)[:len(queues)]
	return h
}

// behind answers the first entry of a list's spare room.
func behind[T any](l []T) T {
	return l[:len(l)+1][len(l)]
}

func checkNoteRoom(t *testing.T, n api.Note) {
	t.Helper()
	if behind(n.Props) != roomProp || behind(n.Body) != roomByte {
		t.Errorf("the spare room of a note was changed: %v, %v", behind(n.Props), behind(n.Body))
	}
}

func checkRoom(t *testing.T, h api.Hall) {
	t.Helper()
	if !sameQueue(behind(h.Queues), roomQueue) {
		t.Errorf("the spare room behind the queues was changed: %v", behind(h.Queues))
	}
	for _, q := range h.Queues {
		if !sameItem(behind(q.Items), roomItem) {
			t.Errorf("the spare room behind items was changed: %v", behind(q.Items))
		}
		for _, i := range q.Items {
			checkNoteRoom(t, i.Note)
		}
	}
}

// The spoilers change all that there is, and what is behind it: whoever shares memory with it is changed too.
func spoilNote(n api.Note) {
	for k := range n.Props {
		n.Props[k] = api.Prop{Key: "spoilt"}
	}
	for k := range n.Body {
		n.Body[k] ^= 0x55
	}
	_ = append(n.Props, api.Prop{Key: "more"})
	_ = append(n.Body, 1)
}

func spoilHall(h api.Hall) {
	for k, q := range h.Queues {
		for j, i := range q.Items {
			spoilNote(i.Note)
			q.Items[j] = api.Item{ID: -1, Due: -1}
		}
		_ = append(q.Items, api.Item{ID: -2})
		h.Queues[k] = api.Queue{Name: "spoilt"}
	}
	_ = append(h.Queues, api.Queue{Name: "more"})
}

func spoilEntries(es []api.Entry) {
	for k, e := range es {
		spoilNote(e.Note)
		es[k] = api.Entry{Kind: -1}
	}
	_ = append(es, api.Entry{Kind: -2})
}

// checkApart: what call answers shares no memory with the hall that it is handed, nor its hall, entries and item with each other; and the hall is only read.
func checkApart(t *testing.T, h api.Hall, call func(h api.Hall) told) {
	t.Helper()
	want := call(h)

	given := roomy(h)
	got := call(given)
	spoilHall(given)
	check(t, got, want)

	given = roomy(h)
	got = call(given)
	spoilHall(got.h)
	check(t, told{h: want.h, es: got.es, item: got.item, err: got.err}, want)
	spoilEntries(got.es)
	check(t, told{h: want.h, es: want.es, item: got.item, err: got.err}, want)
	spoilNote(got.item.Note)
	check(t, told{h: given}, told{h: h})
	checkRoom(t, given)

	got = call(given)
	spoilEntries(got.es)
	spoilNote(got.item.Note)
	check(t, told{h: got.h, es: want.es, item: want.item, err: got.err}, want)
}

// others are halls beside the sample: right ones, and wrong ones, of which nothing is promised but that copies are copies.
func others() []api.Hall {
	return []api.Hall{
		{},
		{Queues: []api.Queue{}},
		{Next: 1000000, Queues: []api.Queue{{Name: "q", Limit: 1}}},
		{Next: 8, Queues: []api.Queue{{Name: "dead", Limit: 8, Items: make([]api.Item, 8)}, {Name: "z", Limit: 8, Items: []api.Item{}}}},
		{Next: -5, Queues: []api.Queue{{Name: "NO KEY", Limit: -1, Items: make([]api.Item, 40)}, {}, {}, {}, {}, {}}},
	}
}

func TestTheSampleIsAHall(t *testing.T) {
	checkHall(t, sample())
	check(t, told{h: hall.Own(roomy(sample()))}, told{h: sample()})
}
