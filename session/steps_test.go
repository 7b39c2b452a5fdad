package session_test

import (
	"slices"
	"testing"

	"trivetgate/api"
	"trivetgate/hall"
	"trivetgate/journal"
	"trivetgate/note"
	"trivetgate/session"
	"trivetgate/store"
)

// row is an item, where it is, and the tag by which it is given, if it is.
type row struct {
	queue string
	item  api.Item
	tag   *api.Tag
}

// guest is a session: its tags are compared by where they lie, not by what they say.
type guest struct {
	tags []*api.Tag
	next int
}

// book keeps the items of all queues in one list, and of the log only how long it is: another way to the same.
type book struct {
	names  []string
	limits map[string]int
	rows   []*row
	next   int
	size   int
	guests [2]guest
}

func (k *book) of(name string) []*row {
	var out []*row
	for _, r := range k.rows {
		if r.queue == name {
			out = append(out, r)
		}
	}
	return out
}

func (k *book) hall() api.Hall {
	h := api.Hall{Next: k.next}
	for _, name := range k.names {
		q := api.Queue{Name: name, Limit: k.limits[name]}
		for _, r := range k.of(name) {
			q.Items = append(q.Items, r.item)
		}
		h.Queues = append(h.Queues, q)
	}
	return h
}

func (g guest) session() api.Session {
	s := api.Session{Next: g.next}
	for _, t := range g.tags {
		s.Tags = append(s.Tags, *t)
	}
	return s
}

func (k *book) has(name string) bool { return slices.Contains(k.names, name) }

// tell counts the bytes of frames, if they have room.
func (k *book) tell(bytes int) bool {
	if k.size+bytes > 6000 {
		return false
	}
	k.size += bytes
	return true
}

// How many bytes entries have, as frames.
func makeSize(name string) int            { return 4 + 3 + len(name) }
func dropSize(name string) int            { return 4 + 2 + len(name) }
func goneSize(name string) int            { return 4 + 6 + len(name) }
func putSize(name string, n api.Note) int { return 4 + 6 + len(name) + len(note.Bytes(n)) }

func (k *book) make(name string, limit int) api.Say {
	switch {
	case k.has(name):
		return sayErr(api.ErrName)
	case limit == 0 || limit > 8:
		return sayErr(api.ErrRange)
	case len(k.names) == 4:
		return sayErr(api.ErrMany)
	case !k.tell(makeSize(name)):
		return sayErr(api.ErrFull)
	}
	k.names = append(k.names, name)
	k.limits[name] = limit
	return sayOK
}

func (k *book) drop(name string) api.Say {
	if !k.tell(dropSize(name)) {
		return sayErr(api.ErrFull)
	}
	k.names = slices.DeleteFunc(k.names, func(s string) bool { return s == name })
	k.rows = slices.DeleteFunc(k.rows, func(r *row) bool { return r.queue == name })
	return sayOK
}

func (k *book) room(name string) bool { return k.has(name) && len(k.of(name)) < k.limits[name] }

func (k *book) lay(name string, n api.Note) {
	k.rows = append(k.rows, &row{queue: name, item: api.Item{ID: k.next, Note: n}})
	k.next++
}

func (k *book) put(name string, n api.Note) api.Say {
	if !k.room(name) || !k.tell(putSize(name, n)) {
		return sayErr(api.ErrFull)
	}
	k.lay(name, n)
	return sayOK
}

func (k *book) purge(name string) api.Say {
	size := 0
	goes := func(r *row) bool { return r.queue == name && r.tag == nil }
	for _, r := range k.rows {
		if goes(r) {
			size += goneSize(name)
		}
	}
	if !k.tell(size) {
		return sayErr(api.ErrFull)
	}
	k.rows = slices.DeleteFunc(k.rows, goes)
	return sayOK
}

func (k *book) take(who int, a api.Ask, now int) (api.Say, api.Errno) {
	g := &k.guests[who]
	for _, r := range k.of(a.Queue) {
		if r.tag == nil {
			g.next++
			r.item.Out, r.item.Due, r.item.Turn = true, now+5, r.item.Turn+1
			r.tag = &api.Tag{N: g.next, Queue: a.Queue, ID: r.item.ID, Turn: r.item.Turn}
			g.tags = append(g.tags, r.tag)
			return api.Say{Kind: 2, N: g.next, M: r.item.Tries, Note: r.item.Note}, 0
		}
	}
	if a.Kind == 6 {
		return api.Say{}, 9
	}
	return api.Say{Kind: 3}, 0
}

func (k *book) given(t *api.Tag) *row {
	at := slices.IndexFunc(k.rows, func(r *row) bool { return r.tag == t })
	if at < 0 {
		return nil
	}
	return k.rows[at]
}

func (k *book) remove(r *row) {
	k.rows = slices.DeleteFunc(k.rows, func(x *row) bool { return x == r })
}

func (k *book) done(t *api.Tag) api.Say {
	r := k.given(t)
	if r == nil {
		return sayErr(api.ErrNone)
	}
	if !k.tell(goneSize(r.queue)) {
		return sayErr(api.ErrFull)
	}
	k.remove(r)
	return sayOK
}

func (k *book) back(t *api.Tag) api.Say {
	r := k.given(t)
	if r == nil {
		return sayErr(api.ErrNone)
	}
	if r.item.Tries < 2 {
		r.tag = nil
		r.item.Out, r.item.Due, r.item.Tries = false, 0, r.item.Tries+1
		return sayOK
	}
	aside := r.queue != "dead" && k.room("dead")
	size := goneSize(r.queue)
	if aside {
		size += putSize("dead", r.item.Note)
	}
	if !k.tell(size) {
		return sayErr(api.ErrFull)
	}
	k.remove(r)
	if aside {
		k.lay("dead", r.item.Note)
	}
	return sayOK
}

func (k *book) part(who int, a api.Ask) api.Say {
	g := &k.guests[who]
	for at, t := range g.tags {
		if t.N != a.N {
			continue
		}
		say := k.done
		if a.Kind == 8 {
			say = k.back
		}
		said := say(t)
		if said.Err != api.ErrFull {
			g.tags = slices.Delete(g.tags, at, at+1)
		}
		return said
	}
	return sayErr(api.ErrNone)
}

func (k *book) ask(who int, a api.Ask, now int) (api.Say, api.Errno) {
	switch {
	case a.Kind == 1:
		return sayOK, 0
	case a.Kind == 2:
		return k.make(a.Queue, a.N), 0
	case a.Kind == 7 || a.Kind == 8:
		return k.part(who, a), 0
	case (a.Kind == 5 || a.Kind == 6) && len(k.guests[who].tags) == 4:
		return sayErr(api.ErrMany), 0
	case !k.has(a.Queue):
		return sayErr(api.ErrNone), 0
	case a.Kind == 3:
		return k.drop(a.Queue), 0
	case a.Kind == 4:
		return k.put(a.Queue, a.Note), 0
	case a.Kind == 9:
		return k.purge(a.Queue), 0
	}
	return k.take(who, a, now)
}

func (k *book) leave(who int) {
	for _, t := range k.guests[who].tags {
		k.back(t)
	}
	k.guests[who] = guest{}
}

// tick has come back what is late: queue by queue, and all of it or, if the log has no room, nothing.
func (k *book) tick(h api.Hall, l api.Log, now int) (api.Hall, api.Log) {
	x, es := hall.Tick(h, now)
	y, err := journal.Write(l, es)
	if err != api.OK {
		return h, l
	}
	for _, name := range slices.Clone(k.names) {
		for _, r := range k.of(name) {
			if r.tag != nil && r.item.Due <= now {
				k.back(r.tag)
			}
		}
	}
	return x, y
}

// askBy makes an ask of two bytes; some of them are refused, none is wrong.
func askBy(c, d byte, next int) api.Ask {
	name := []string{"a", "b", "dead", "d", "e"}[d%5]
	switch c % 20 {
	case 0:
		return api.Ask{Kind: api.AskPing}
	case 1, 2:
		return api.Ask{Kind: api.AskMake, Queue: name, N: int(d/5) % 10}
	case 3:
		if d%3 == 0 {
			return api.Ask{Kind: api.AskDrop, Queue: name}
		}
		return api.Ask{Kind: api.AskMake, Queue: name, N: 8}
	case 4, 5, 6, 7:
		return api.Ask{Kind: api.AskPut, Queue: name, Note: letter(d)}
	case 8, 9, 10, 11:
		return api.Ask{Kind: api.AskTake, Queue: name}
	case 12, 13:
		return api.Ask{Kind: api.AskWait, Queue: name, N: 1 + int(d)%9}
	case 14, 15:
		return api.Ask{Kind: api.AskDone, N: max(1, next-int(d)%6)}
	case 19:
		if d%2 == 0 {
			return api.Ask{Kind: api.AskPurge, Queue: name}
		}
	}
	return api.Ask{Kind: api.AskBack, N: max(1, next-int(d)%6)}
}

// walk holds Do and Leave, of two guests of one hall, against the book, step by step. The log begins with a record that is no entry, so that its end is near.
func walk(t *testing.T, room byte, steps []byte) {
	l, err := store.Append(api.Log{}, [][]byte{make([]byte, api.MaxLog-4-8*int(room))})
	if err != api.OK {
		t.Fatalf("Append tells %d", err)
	}
	k := &book{limits: map[string]int{}, size: len(l.Bytes)}
	x := state{l: l}
	var guests [2]api.Session
	now := 0
	for at := 0; at+1 < len(steps); at += 2 {
		c, d := steps[at], steps[at+1]
		who := int(c>>7) & 1
		switch {
		case c%32 == 30:
			now++
			x.h, x.l = k.tick(x.h, x.l, now)
		case c%32 == 31 && d%8 == 0:
			x.h, x.l = session.Leave(x.h, x.l, guests[who])
			guests[who] = api.Session{}
			k.leave(who)
		default:
			x.s = guests[who]
			a := askBy(c, d, x.s.Next)
			got := do(x, a, now)
			say, err := k.ask(who, a, now)
			check(t, answer{x: x, say: got.say, err: got.err}, answer{x: x, say: say, err: err})
			x, guests[who] = got.x, got.x.s
		}
		checkStep(t, k, x, guests)
		if t.Failed() {
			t.Fatalf("step %d: %d %d", at/2, c, d)
		}
	}
}

// checkStep: all is as in the book, and what the journal tells is what was done.
func checkStep(t *testing.T, k *book, x state, guests [2]api.Session) {
	t.Helper()
	want := state{h: k.hall(), l: x.l}
	checkState(t, state{h: x.h, l: x.l}, want)
	if len(x.l.Bytes) != k.size || x.l.Sure != 0 {
		t.Errorf("the log has %d bytes, not %d; %d are sure", len(x.l.Bytes), k.size, x.l.Sure)
	}
	for who, s := range guests {
		if !sameSession(s, k.guests[who].session()) {
			t.Errorf("the session of %d is %v, not %v", who, s, k.guests[who].session())
		}
	}
	if back := journal.Replay(x.l.Bytes); !sameHall(back, hall.Plain(x.h)) {
		t.Errorf("the journal brings back %v, of %v", back, x.h)
	}
}

func FuzzSteps(f *testing.F) {
	f.Add(byte(0), []byte{})
	for seed := range 40 {
		var steps []byte
		x := uint32(seed*7919 + 1)
		for range 400 {
			x = x*1664525 + 1013904223
			steps = append(steps, byte(x>>24))
		}
		f.Add(byte(seed*13), steps)
	}
	f.Fuzz(walk)
}
