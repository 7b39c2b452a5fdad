package session

import (
	"slices"

	"trivetgate/api"
	"trivetgate/hall"
	"trivetgate/journal"
)

// desk has what an ask may change. It is made of copies, and changed in place.
type desk struct {
	hall    api.Hall
	log     api.Log
	session api.Session
}

// change is what is to be done to a hall: it answers the hall as it is then, and the entries that tell of it.
type change func(api.Hall) (api.Hall, []api.Entry, api.Errno)

// answer does what is asked, and says so. What is refused has an answer too, and is no error of the call.
func (x *desk) answer(a api.Ask, now int) (api.Say, api.Errno) {
	if err := Wrong(a); err != api.OK {
		return sayOf(err), api.OK
	}
	switch a.Kind {
	case api.AskPing:
		return sayOf(api.OK), api.OK
	case api.AskTake, api.AskWait:
		return x.take(a, now)
	case api.AskDone, api.AskBack:
		return sayOf(x.part(a)), api.OK
	}
	return sayOf(x.write(changeOf(a))), api.OK
}

func sayOf(err api.Errno) api.Say {
	if err == api.OK {
		return api.Say{Kind: api.SayOK}
	}
	return api.Say{Kind: api.SayErr, Err: err}
}

// changeOf is for the asks that speak of a whole queue.
func changeOf(a api.Ask) change {
	return func(h api.Hall) (api.Hall, []api.Entry, api.Errno) {
		switch a.Kind {
		case api.AskMake:
			return hall.Make(h, a.Queue, a.N)
		case api.AskDrop:
			return hall.Drop(h, a.Queue)
		case api.AskPut:
			return hall.Put(h, a.Queue, a.Note)
		}
		return hall.Purge(h, a.Queue)
	}
}

func doneOf(t api.Tag) change {
	return func(h api.Hall) (api.Hall, []api.Entry, api.Errno) { return hall.Done(h, t) }
}

func backOf(t api.Tag) change {
	return func(h api.Hall) (api.Hall, []api.Entry, api.Errno) { return hall.Back(h, t) }
}

// write has the hall changed, and the log tell of it: both, or, at an error, neither.
func (x *desk) write(does change) api.Errno {
	h, told, err := does(x.hall)
	if err != api.OK {
		return err
	}
	l, err := journal.Write(x.log, told)
	if err != api.OK {
		return err
	}
	x.hall, x.log = h, l
	return api.OK
}

// take gives the next item of a queue, with a tag of its own. The log tells nothing of it: what was given is there again behind a crash.
func (x *desk) take(a api.Ask, now int) (api.Say, api.Errno) {
	if len(x.session.Tags) >= api.MaxTags {
		return sayOf(api.ErrMany), api.OK
	}
	h, i, err := hall.Take(x.hall, a.Queue, now)
	switch {
	case err == api.ErrMore && a.Kind == api.AskWait:
		return api.Say{}, api.ErrMore
	case err == api.ErrMore:
		return api.Say{Kind: api.SayNone}, api.OK
	case err != api.OK:
		return sayOf(err), api.OK
	}
	x.hall = h
	return x.tagged(a.Queue, i), api.OK
}

func (x *desk) tagged(name string, i api.Item) api.Say {
	s := &x.session
	s.Next++
	s.Tags = append(s.Tags, api.Tag{N: s.Next, Queue: name, ID: i.ID, Turn: i.Turn})
	return api.Say{Kind: api.SayItem, N: s.Next, M: i.Tries, Note: i.Note}
}

// part has somebody be done with a tag, or give it back.
func (x *desk) part(a api.Ask) api.Errno {
	tags := x.session.Tags
	at := slices.IndexFunc(tags, func(t api.Tag) bool { return t.N == a.N })
	if at < 0 {
		return api.ErrNone
	}
	does := doneOf(tags[at])
	if a.Kind == api.AskBack {
		does = backOf(tags[at])
	}
	err := x.write(does)
	// Where the log has no room the item is given still, so the tag stays; else it has nothing more to speak of.
	if err != api.ErrFull {
		x.session.Tags = slices.Delete(tags, at, at+1)
	}
	return err
}
