package journal_test

import (
	"math"
	"slices"
	"testing"

	"trivetgate/api"
	"trivetgate/journal"
)

// sample is a hall of two queues, with items that were given. The second queue is full; 5 stands twice in the first one, which no hall has, but a journal may make.
func sample() api.Hall {
	return api.Hall{Next: 8, Queues: []api.Queue{
		{Name: "a", Limit: 8, Items: []api.Item{
			{ID: 5, Turn: 4, Tries: 2, Note: letter('p')},
			{ID: 2, Turn: 1, Out: true, Due: 20, Note: letter('q')},
			{ID: 5, Turn: 7, Out: true, Due: 10, Note: letter('r')},
			{ID: 7, Note: letter('s')},
		}},
		{Name: "b", Limit: 1, Items: []api.Item{
			{ID: 5, Turn: 3, Tries: 1, Out: true, Due: 12, Note: letter('t')},
		}},
	}}
}

// but answers the sample, changed.
func but(change func(h *api.Hall)) api.Hall {
	h := sample()
	change(&h)
	return h
}

// E1: Apply.
func TestApply(t *testing.T) {
	same := func(*api.Hall) {}
	tests := []struct {
		name   string
		e      api.Entry
		change func(h *api.Hall)
	}{
		{"a queue that there is not is made", makeOf("c", 4), func(h *api.Hall) {
			h.Queues = append(h.Queues, api.Queue{Name: "c", Limit: 4})
		}},
		{"of whatever limit", makeOf("c", 0), func(h *api.Hall) {
			h.Queues = append(h.Queues, api.Queue{Name: "c"})
		}},
		{"of the largest limit", makeOf("c", 255), func(h *api.Hall) {
			h.Queues = append(h.Queues, api.Queue{Name: "c", Limit: 255})
		}},
		{"of a name that is no key", makeOf("NO KEY", 1), func(h *api.Hall) {
			h.Queues = append(h.Queues, api.Queue{Name: "NO KEY", Limit: 1})
		}},
		{"of no name", makeOf("", 1), func(h *api.Hall) {
			h.Queues = append(h.Queues, api.Queue{Name: "", Limit: 1})
		}},
		{"a queue that there is stays", makeOf("a", 4), same},
		{"the last queue stays too", makeOf("b", 4), same},
		{"a queue goes", dropOf("a"), func(h *api.Hall) { h.Queues = h.Queues[1:] }},
		{"the last queue goes", dropOf("b"), func(h *api.Hall) { h.Queues = h.Queues[:1] }},
		{"no queue goes", dropOf("c"), same},
		{"no queue goes for its beginning", dropOf(""), same},
		{"an item is put last, and counted", putOf("a", 8, letter('u')), func(h *api.Hall) {
			h.Queues[0].Items = append(h.Queues[0].Items, api.Item{ID: 8, Note: letter('u')})
			h.Next = 9
		}},
		{"numbers are left out", putOf("a", 1000000, letter('u')), func(h *api.Hall) {
			h.Queues[0].Items = append(h.Queues[0].Items, api.Item{ID: 1000000, Note: letter('u')})
			h.Next = 1000001
		}},
		{"the last number was counted", putOf("a", 7, letter('u')), func(h *api.Hall) {
			h.Queues[0].Items = append(h.Queues[0].Items, api.Item{ID: 7, Note: letter('u')})
		}},
		{"an early number was counted too", putOf("a", 0, api.Note{}), func(h *api.Hall) {
			h.Queues[0].Items = append(h.Queues[0].Items, api.Item{})
		}},
		{"an item is put where no room is", putOf("b", 9, letter('u')), func(h *api.Hall) {
			h.Queues[1].Items = append(h.Queues[1].Items, api.Item{ID: 9, Note: letter('u')})
			h.Next = 10
		}},
		{"an item is put in no queue, and not counted", putOf("c", 9, letter('u')), same},
		{"an item goes", goneOf("a", 7), func(h *api.Hall) { h.Queues[0].Items = h.Queues[0].Items[:3] }},
		{"an item that is given goes", goneOf("a", 2), func(h *api.Hall) { h.Queues[0].Items = slices.Delete(h.Queues[0].Items, 1, 2) }},
		{"all of that number go, of that queue", goneOf("a", 5), func(h *api.Hall) {
			h.Queues[0].Items = []api.Item{h.Queues[0].Items[1], h.Queues[0].Items[3]}
		}},
		{"the last item goes", goneOf("b", 5), func(h *api.Hall) { h.Queues[1].Items = nil }},
		{"no item of that number", goneOf("a", 3), same},
		{"an item of another queue", goneOf("b", 7), same},
		{"an item of no queue", goneOf("c", 5), same},
		{"no kind", api.Entry{Queue: "a", N: 3, ID: 5}, same},
		{"no kind, of a queue that there is not", api.Entry{Kind: 5, Queue: "c", N: 3}, same},
		{"no kind below", api.Entry{Kind: -1, Queue: "a", ID: 5}, same},
	}
	for _, c := range tests {
		t.Run(c.name, func(t *testing.T) {
			given := roomyHall(sample())
			checkHall(t, journal.Apply(given, roomyEntry(c.e)), but(c.change))
			checkOnlyRead(t, given, sample())
		})
	}
}

// Z5: fields that a kind has not mean nothing.
func TestApplyOfStrayFields(t *testing.T) {
	for _, e := range []api.Entry{makeOf("c", 4), dropOf("a"), putOf("a", 9, letter('u')), goneOf("a", 5)} {
		stray := e
		if e.Kind != api.EnMake {
			stray.N = 77
		}
		if e.Kind == api.EnMake || e.Kind == api.EnDrop {
			stray.ID = 500
		}
		if e.Kind != api.EnPut {
			stray.Note = letter('z')
		}
		checkHall(t, journal.Apply(sample(), stray), journal.Apply(sample(), e))
	}
}

// E1: Apply is of any hall, also of one that has more than halls have.
func TestApplyOfAnyHall(t *testing.T) {
	checkHall(t, journal.Apply(api.Hall{}, makeOf("a", 1)), api.Hall{Queues: []api.Queue{{Name: "a", Limit: 1}}})
	checkHall(t, journal.Apply(api.Hall{Queues: []api.Queue{}}, putOf("a", 1, api.Note{})), api.Hall{})
	checkHall(t, journal.Apply(api.Hall{Next: -5, Queues: []api.Queue{{Limit: -1}}}, putOf("", 0, api.Note{})),
		api.Hall{Next: 1, Queues: []api.Queue{{Limit: -1, Items: []api.Item{{}}}}})
	checkHall(t, journal.Apply(api.Hall{Next: math.MaxInt, Queues: []api.Queue{{Name: "q"}}}, putOf("q", 1000000, api.Note{})),
		api.Hall{Next: math.MaxInt, Queues: []api.Queue{{Name: "q", Items: []api.Item{{ID: 1000000}}}}})

	many := api.Hall{Queues: make([]api.Queue, 9)}
	for k := range many.Queues {
		many.Queues[k] = api.Queue{Name: string(rune('a' + k)), Items: make([]api.Item, 20)}
	}
	got := journal.Apply(many, makeOf("z", 2))
	if len(got.Queues) != 10 || !sameQueue(got.Queues[9], api.Queue{Name: "z", Limit: 2}) {
		t.Errorf("the tenth queue is not made: %v", got)
	}
	if got := journal.Apply(many, goneOf("i", 0)); len(got.Queues) != 9 || len(got.Queues[8].Items) != 0 || len(got.Queues[7].Items) != 20 {
		t.Errorf("not twenty items of the ninth queue go: %v", got)
	}
}

// If two queues had one name, the first one is meant, as Find (chapter 4) has it.
func TestApplyOfTwoQueuesOfOneName(t *testing.T) {
	h := api.Hall{Next: 5, Queues: []api.Queue{{Name: "x"}, {Name: "q", Limit: 1}, {Name: "q", Limit: 2}, {Name: "q", Limit: 3}}}
	got := journal.Apply(h, putOf("q", 1, letter('a')))
	checkHall(t, got, api.Hall{Next: 5, Queues: []api.Queue{
		{Name: "x"}, {Name: "q", Limit: 1, Items: []api.Item{{ID: 1, Note: letter('a')}}}, {Name: "q", Limit: 2}, {Name: "q", Limit: 3},
	}})
	got = journal.Apply(got, dropOf("q"))
	checkHall(t, got, api.Hall{Next: 5, Queues: []api.Queue{{Name: "x"}, {Name: "q", Limit: 2}, {Name: "q", Limit: 3}}})
}

func TestApplySharesNothing(t *testing.T) {
	for _, e := range []api.Entry{makeOf("c", 4), makeOf("a", 4), dropOf("a"), dropOf("c"), putOf("a", 9, letter('u')), putOf("b", 9, api.Note{}), putOf("c", 9, letter('u')), goneOf("a", 5), goneOf("b", 5), {Kind: 9}} {
		want := journal.Apply(sample(), e)

		given, told := roomyHall(sample()), roomyEntry(e)
		got := journal.Apply(given, told)
		spoilHall(given)
		spoilNote(told.Note)
		checkHall(t, got, want)

		given, told = roomyHall(sample()), roomyEntry(e)
		spoilHall(journal.Apply(given, told))
		checkOnlyRead(t, given, sample())
		checkEntries(t, []api.Entry{told}, []api.Entry{e})
		checkNoteRoom(t, told.Note)
	}
}

// No two lists of what is answered share memory: spoiling one item's note leaves all others as they were.
func TestApplyAnswersListsApart(t *testing.T) {
	shared := letter('m')
	h := api.Hall{Queues: []api.Queue{{Name: "a", Items: []api.Item{{Note: shared}, {ID: 1, Note: shared}}}}}
	got := journal.Apply(h, putOf("a", 2, shared))
	spoilNote(got.Queues[0].Items[2].Note)
	spoilNote(got.Queues[0].Items[0].Note)
	if !sameItem(got.Queues[0].Items[1], api.Item{ID: 1, Note: letter('m')}) {
		t.Errorf("one item changed with another one: %v", got)
	}
}
