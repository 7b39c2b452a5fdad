package journal

import (
	"slices"

	"trivetgate/api"
	"trivetgate/note"
)

// applyTo answers what does to x itself what entries tell, one behind the other. It remembers by name where each queue is, so that entries of a long journal need not look for theirs; until it is done with nobody else changes x.
func applyTo(x *api.Hall) func(api.Entry) {
	places := placesOf(x.Queues)
	return func(e api.Entry) {
		at, has := places[e.Queue]
		switch {
		case !has && e.Kind == api.EnMake:
			places[e.Queue] = len(x.Queues)
			x.Queues = append(x.Queues, api.Queue{Name: e.Queue, Limit: e.N})
		case has && e.Kind == api.EnDrop:
			x.Queues = slices.Delete(x.Queues, at, at+1)
			places = placesOf(x.Queues)
		case has && e.Kind == api.EnPut:
			putIn(x, at, e)
		case has && e.Kind == api.EnGone:
			x.Queues[at].Items = without(x.Queues[at].Items, e.ID)
		}
	}
}

// placesOf tells by name where each queue is. It goes from the last one to the first one: if two had one name, the first one is meant, as in a hall.
func placesOf(queues []api.Queue) map[string]int {
	places := map[string]int{}
	for at := len(queues) - 1; at >= 0; at-- {
		places[queues[at].Name] = at
	}
	return places
}

// putIn asks neither for room nor for a number that rises: what a journal tells was done.
func putIn(x *api.Hall, at int, e api.Entry) {
	q := &x.Queues[at]
	q.Items = append(q.Items, api.Item{ID: e.ID, Note: note.Own(e.Note)})
	x.Next = max(x.Next, e.ID+1)
}

// without takes items out of the list itself, not out of a copy: only for lists that were made here.
func without(items []api.Item, id int) []api.Item {
	return slices.DeleteFunc(items, func(i api.Item) bool { return i.ID == id })
}
