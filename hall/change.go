package hall

import (
	"trivetgate/api"
	"trivetgate/note"
	"trivetgate/queue"
)

// eachOf answers h with what made makes of each queue; made answers new memory.
func eachOf(h api.Hall, made func(api.Queue) api.Queue) api.Hall {
	out := api.Hall{Next: h.Next}
	for _, q := range h.Queues {
		out.Queues = append(out.Queues, made(q))
	}
	return out
}

// changed answers what change makes of a copy of h, at the place of the queue of that name. The copy is given up if change tells an error, so it may be left half changed then.
func changed(h api.Hall, name string, change func(x *api.Hall, at int) ([]api.Entry, api.Errno)) (api.Hall, []api.Entry, api.Errno) {
	at := Find(h, name)
	if at < 0 {
		return api.Hall{}, nil, api.ErrNone
	}
	out := Own(h)
	told, err := change(&out, at)
	if err != api.OK {
		return api.Hall{}, nil, err
	}
	return out, told, api.OK
}

// putIn puts n in x itself; if there is no room x is as it was.
func putIn(x *api.Hall, at int, n api.Note) ([]api.Entry, api.Errno) {
	id := x.Next
	q, err := queue.Put(x.Queues[at], id, n)
	if err != api.OK {
		return nil, err
	}
	x.Queues[at] = q
	x.Next++
	return []api.Entry{{Kind: api.EnPut, Queue: q.Name, ID: id, Note: note.Own(n)}}, api.OK
}

// backIn has an item come back in x itself.
func backIn(x *api.Hall, at, id, turn int) ([]api.Entry, api.Errno) {
	q, i, goes, err := queue.Back(x.Queues[at], id, turn)
	if err != api.OK {
		return nil, err
	}
	x.Queues[at] = q
	if !goes {
		return nil, api.OK
	}
	return append(gone(q.Name, id), putAside(x, at, i.Note)...), api.OK
}

// putAside keeps the note of an item that came back too often. Where there is no other queue for these, or no room in it, the note is lost, and that is no error.
func putAside(x *api.Hall, from int, n api.Note) []api.Entry {
	at := Find(*x, dead)
	if at < 0 || at == from {
		return nil
	}
	told, _ := putIn(x, at, n)
	return told
}

// lateIn has all late items of a queue come back, in x itself. It goes by the queue's place, not by its name: so each item that is late is found, and the end comes, even if two queues had one name.
func lateIn(x *api.Hall, at, now int) []api.Entry {
	var told []api.Entry
	for {
		i, late := queue.Late(x.Queues[at], now)
		if !late {
			return told
		}
		more, _ := backIn(x, at, i.ID, i.Turn)
		told = append(told, more...)
	}
}

// gone tells of items that are in a queue no more.
func gone(name string, ids ...int) []api.Entry {
	var told []api.Entry
	for _, id := range ids {
		told = append(told, api.Entry{Kind: api.EnGone, Queue: name, ID: id})
	}
	return told
}
