package hall_test

import (
	"slices"
	"testing"

	"trivetgate/api"
	"trivetgate/hall"
	"trivetgate/note"
)

// checkHall: h is what the document calls a hall.
func checkHall(t *testing.T, h api.Hall) {
	t.Helper()
	if len(h.Queues) > api.MaxQueues || h.Next < 0 {
		t.Errorf("%v is no hall", h)
	}
	for k, q := range h.Queues {
		if !note.Key(q.Name) || hall.Find(h, q.Name) != k || q.Limit < 1 || q.Limit > api.MaxItems || len(q.Items) > q.Limit {
			t.Errorf("%v is no queue of a hall", q)
		}
		last := -1
		for _, i := range q.Items {
			if i.ID <= last || i.ID >= h.Next || note.Wrong(i.Note) != api.OK || i.Turn < 0 || i.Tries < 0 || i.Tries >= api.MaxTries || i.Due < 0 {
				t.Errorf("%v is no item of a hall", i)
			}
			last = i.ID
		}
	}
}

// row is an item, and where it is.
type row struct {
	queue string
	item  api.Item
}

// book keeps the items of all queues in one list: another way to the same. The list is in the order of IDs, so that of each queue too.
type book struct {
	names  []string
	limits map[string]int
	rows   []row
	next   int
	told   []api.Entry
}

func (k *book) of(name string) []int {
	var out []int
	for at, r := range k.rows {
		if r.queue == name {
			out = append(out, at)
		}
	}
	return out
}

func (k *book) hall() api.Hall {
	h := api.Hall{Next: k.next}
	for _, name := range k.names {
		q := api.Queue{Name: name, Limit: k.limits[name]}
		for _, at := range k.of(name) {
			q.Items = append(q.Items, k.rows[at].item)
		}
		h.Queues = append(h.Queues, q)
	}
	return h
}

func (k *book) has(name string) bool { return slices.Contains(k.names, name) }

func (k *book) make(name string, limit int) api.Errno {
	switch {
	case k.has(name):
		return api.ErrName
	case limit == 0 || limit > 8:
		return api.ErrRange
	case len(k.names) == 4:
		return api.ErrMany
	}
	k.names = append(k.names, name)
	k.limits[name] = limit
	k.told = append(k.told, api.Entry{Kind: 1, Queue: name, N: limit})
	return api.OK
}

func (k *book) drop(name string) api.Errno {
	if !k.has(name) {
		return api.ErrNone
	}
	k.names = slices.DeleteFunc(k.names, func(s string) bool { return s == name })
	k.rows = slices.DeleteFunc(k.rows, func(r row) bool { return r.queue == name })
	k.told = append(k.told, api.Entry{Kind: 2, Queue: name})
	return api.OK
}

func (k *book) put(name string, n api.Note) api.Errno {
	if !k.has(name) {
		return api.ErrNone
	}
	if len(k.of(name)) == k.limits[name] {
		return api.ErrFull
	}
	k.rows = append(k.rows, row{name, api.Item{ID: k.next, Note: n}})
	k.told = append(k.told, api.Entry{Kind: 3, Queue: name, ID: k.next, Note: n})
	k.next++
	return api.OK
}

func (k *book) take(name string, now int) api.Errno {
	if !k.has(name) {
		return api.ErrNone
	}
	for _, at := range k.of(name) {
		if i := &k.rows[at].item; !i.Out {
			i.Out, i.Due, i.Turn = true, now+5, i.Turn+1
			return api.OK
		}
	}
	return api.ErrMore
}

func (k *book) given(t api.Tag) int {
	return slices.IndexFunc(k.rows, func(r row) bool {
		return r.queue == t.Queue && r.item.Out && r.item.ID == t.ID && r.item.Turn == t.Turn
	})
}

func (k *book) done(t api.Tag) api.Errno {
	at := k.given(t)
	if at < 0 {
		return api.ErrNone
	}
	k.rows = slices.Delete(k.rows, at, at+1)
	k.told = append(k.told, api.Entry{Kind: 4, Queue: t.Queue, ID: t.ID})
	return api.OK
}

func (k *book) back(t api.Tag) api.Errno {
	at := k.given(t)
	if at < 0 {
		return api.ErrNone
	}
	if i := &k.rows[at].item; i.Tries < 2 {
		i.Out, i.Due, i.Tries = false, 0, i.Tries+1
		return api.OK
	}
	n := k.rows[at].item.Note
	k.done(t)
	if t.Queue != "dead" {
		k.put("dead", n)
	}
	return api.OK
}

func (k *book) tick(now int) {
	for _, name := range k.names {
		for _, i := range (&book{names: []string{name}, limits: k.limits, rows: slices.Clone(k.rows)}).hall().Queues[0].Items {
			if i.Out && i.Due <= now {
				k.back(api.Tag{Queue: name, ID: i.ID, Turn: i.Turn})
			}
		}
	}
}

func (k *book) purge(name string) api.Errno {
	if !k.has(name) {
		return api.ErrNone
	}
	k.rows = slices.DeleteFunc(k.rows, func(r row) bool {
		goes := r.queue == name && !r.item.Out
		if goes {
			k.told = append(k.told, api.Entry{Kind: 4, Queue: name, ID: r.item.ID})
		}
		return goes
	})
	return api.OK
}

// asked is a step: which call, of which queue, with which number.
type asked struct {
	call byte
	name string
	n    int
}

func askedBy(c, d byte) asked {
	names := []string{"a", "dead", "c", "d", "e"}
	return asked{c % 16, names[int(c>>4)%len(names)], int(d)}
}

// tag finds one of what is given, or what is nearly that.
func (s asked) tag(h api.Hall) api.Tag {
	given := givenOf(h)
	if len(given) == 0 || s.n%8 == 7 {
		return api.Tag{Queue: s.name, ID: s.n % 16, Turn: s.n % 3}
	}
	return given[s.n%len(given)]
}

// inHall does what s asks for in h, and inBook in k.
func (s asked) inHall(h api.Hall, now int) told {
	switch s.call {
	case 0:
		return tell(hall.Make(h, s.name, s.n%10))
	case 1:
		if s.n%4 == 0 {
			return tell(hall.Drop(h, s.name))
		}
		return tell(hall.Purge(h, s.name))
	case 2, 3, 4, 5:
		return tell(hall.Put(h, s.name, letter(byte(s.n))))
	case 6, 7, 8, 9, 10:
		return tellItem(hall.Take(h, s.name, now))
	case 11:
		return tell(hall.Done(h, s.tag(h)))
	case 12, 13:
		return tell(hall.Back(h, s.tag(h)))
	}
	return tellTick(hall.Tick(h, now))
}

func (s asked) inBook(k *book, now int) api.Errno {
	switch s.call {
	case 0:
		return k.make(s.name, s.n%10)
	case 1:
		if s.n%4 == 0 {
			return k.drop(s.name)
		}
		return k.purge(s.name)
	case 2, 3, 4, 5:
		return k.put(s.name, letter(byte(s.n)))
	case 6, 7, 8, 9, 10:
		return k.take(s.name, now)
	case 11:
		return k.done(s.tag(k.hall()))
	case 12, 13:
		return k.back(s.tag(k.hall()))
	}
	k.tick(now)
	return api.OK
}

// applied answers what entries make of a plain hall: what a call tells is what it did.
func applied(h api.Hall, es []api.Entry) api.Hall {
	for _, e := range es {
		at := hall.Find(h, e.Queue)
		switch e.Kind {
		case api.EnMake:
			h.Queues = append(h.Queues, api.Queue{Name: e.Queue, Limit: e.N})
		case api.EnDrop:
			h.Queues = slices.Delete(h.Queues, at, at+1)
		case api.EnPut:
			h.Queues[at].Items = append(h.Queues[at].Items, api.Item{ID: e.ID, Note: e.Note})
			h.Next = e.ID + 1
		case api.EnGone:
			h.Queues[at].Items = slices.DeleteFunc(h.Queues[at].Items, func(i api.Item) bool { return i.ID == e.ID })
		}
	}
	return h
}

// walk takes two bytes for a step, and holds hall and book against each other behind each one.
func walk(t *testing.T, steps []byte) {
	k := &book{limits: map[string]int{}}
	h := api.Hall{}
	for at := 0; at+1 < len(steps); at += 2 {
		s, now := askedBy(steps[at], steps[at+1]), at
		k.told = nil
		got, err := s.inHall(h, now), s.inBook(k, now)
		if err != api.OK {
			checkErr(t, got, err)
			got.h = h
		} else {
			check(t, told{h: got.h, es: got.es}, told{h: k.hall(), es: k.told})
		}
		check(t, told{h: hall.Plain(got.h)}, told{h: applied(hall.Plain(h), got.es)})
		checkHall(t, got.h)
		if t.Failed() {
			t.Fatalf("step %d: %v of %v", at/2, s, h)
		}
		h = got.h
	}
}

func FuzzSteps(f *testing.F) {
	f.Add([]byte{})
	f.Add([]byte("\x00\x02\x10\x01\x02a\x06\x00\x0c\x00\x06\x00\x0c\x00\x06\x00\x0c\x00"))
	for seed := range 60 {
		var steps []byte
		x := uint32(seed*7919 + 1)
		for range 600 {
			x = x*1664525 + 1013904223
			steps = append(steps, byte(x>>24))
		}
		f.Add(append([]byte("\x00\x03\x10\x02"), steps...))
	}
	f.Fuzz(walk)
}
