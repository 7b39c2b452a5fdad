package queue_test

import (
	"math"
	"slices"
	"strings"
	"testing"

	"trivetgate/api"
	"trivetgate/note"
	"trivetgate/queue"
)

// letter is a note with something in each of its lists.
func letter(c byte) api.Note {
	return api.Note{
		Props: []api.Prop{{Key: "k", Kind: api.PropText, Text: string(rune(c))}},
		Body:  []byte{c, c},
	}
}

// sample is a queue of five items: 3 and 6 are given, 2, 5 and 9 wait. 6 was given last and is due first; 5 has a Due of which nothing hangs.
func sample() api.Queue {
	return api.Queue{Name: "abc", Limit: 6, Items: []api.Item{
		{ID: 2, Turn: 4, Tries: 2, Note: letter('a')},
		{ID: 3, Turn: 1, Tries: 0, Out: true, Due: 20, Note: letter('b')},
		{ID: 5, Turn: 0, Tries: 1, Due: 7, Note: letter('c')},
		{ID: 6, Turn: 7, Tries: 2, Out: true, Due: 10, Note: letter('d')},
		{ID: 9, Note: letter('e')},
	}}
}

// but answers the sample, changed.
func but(change func(q *api.Queue)) api.Queue {
	q := sample()
	change(&q)
	return q
}

// withOut is the sample with every item given, or none of them.
func withOut(out bool) api.Queue {
	return but(func(q *api.Queue) {
		for k := range q.Items {
			q.Items[k].Out = out
		}
	})
}

func allOut() api.Queue { return withOut(true) }

func noneOut() api.Queue { return withOut(false) }

// filler stands in spare room, where nobody may look at it or change it.
func filler() api.Item {
	return api.Item{ID: -77, Turn: 1, Note: letter('!')}
}

func roomyNote(n api.Note) api.Note {
	props := append(slices.Clone(n.Props), api.Prop{Key: "room", Kind: 9})
	body := append(slices.Clone(n.Body), 0xAA)
	return api.Note{Props: props[:len(n.Props)], Body: body[:len(n.Body)]}
}

// roomy answers q in lists that have spare room.
func roomy(q api.Queue) api.Queue {
	items := []api.Item{}
	for _, i := range q.Items {
		i.Note = roomyNote(i.Note)
		items = append(items, i)
	}
	items = append(items, filler(), filler())
	q.Items = items[:len(q.Items)]
	return q
}

func checkNoteRoom(t *testing.T, n api.Note) {
	t.Helper()
	if p := n.Props[:len(n.Props)+1][len(n.Props)]; p != (api.Prop{Key: "room", Kind: 9}) {
		t.Errorf("the spare room behind properties was changed: %v", p)
	}
	if c := n.Body[:len(n.Body)+1][len(n.Body)]; c != 0xAA {
		t.Errorf("the spare room behind a body was changed: %v", c)
	}
}

func checkRoom(t *testing.T, q api.Queue) {
	t.Helper()
	for _, i := range q.Items {
		checkNoteRoom(t, i.Note)
	}
	for _, i := range q.Items[:len(q.Items)+2][len(q.Items):] {
		if !sameItem(i, filler()) {
			t.Errorf("the spare room behind the items was changed: %v", i)
		}
	}
}

func sameItem(a, b api.Item) bool {
	return a.ID == b.ID && a.Turn == b.Turn && a.Tries == b.Tries && a.Out == b.Out && a.Due == b.Due && note.Same(a.Note, b.Note)
}

func sameQueue(a, b api.Queue) bool {
	return a.Name == b.Name && a.Limit == b.Limit && slices.EqualFunc(a.Items, b.Items, sameItem)
}

func checkQueue(t *testing.T, got, want api.Queue) {
	t.Helper()
	if !sameQueue(got, want) {
		t.Errorf("the queue is %v, not %v", got, want)
	}
}

func checkItem(t *testing.T, got, want api.Item) {
	t.Helper()
	if !sameItem(got, want) {
		t.Errorf("the item is %v, not %v", got, want)
	}
}

func checkErr(t *testing.T, got, want api.Errno) {
	t.Helper()
	if got != want {
		t.Errorf("%d is told, not %d", got, want)
	}
}

func spoilNote(n api.Note) {
	for k := range n.Props {
		n.Props[k] = api.Prop{Key: "spoilt"}
	}
	for k := range n.Body {
		n.Body[k] ^= 0x55
	}
	_ = append(n.Props, api.Prop{Key: "more"})
	_ = append(n.Body, 1)
}

// spoil changes all that q has, and what is behind it: whoever shares memory with it is changed too.
func spoil(q api.Queue) {
	for k := range q.Items {
		spoilNote(q.Items[k].Note)
		q.Items[k] = api.Item{ID: -1, Due: -1}
	}
	_ = append(q.Items, api.Item{ID: -2})
}

// checkApart: what call answers shares no memory with the queue that it is handed, nor its queue with its item.
func checkApart(t *testing.T, q api.Queue, call func(q api.Queue) (api.Queue, api.Item)) {
	t.Helper()
	wantQueue, wantItem := call(q)

	given := roomy(q)
	out, item := call(given)
	spoil(given)
	checkQueue(t, out, wantQueue)
	checkItem(t, item, wantItem)
	spoil(out)
	checkItem(t, item, wantItem)

	given = roomy(q)
	out, item = call(given)
	spoilNote(item.Note)
	checkQueue(t, out, wantQueue)
	spoil(out)
	checkQueue(t, given, q)
	checkRoom(t, given)
}

// C1: Own.
func TestOwn(t *testing.T) {
	many := api.Queue{Name: "NO KEY", Limit: -3, Items: make([]api.Item, 40)}
	wrong := api.Queue{Limit: math.MaxInt, Items: []api.Item{{ID: math.MinInt, Turn: -1, Tries: 99, Due: math.MaxInt, Note: api.Note{Body: make([]byte, 300)}}}}
	for _, q := range []api.Queue{{}, {Name: "q", Limit: 1}, sample(), allOut(), many, wrong} {
		given := roomy(q)
		checkQueue(t, queue.Own(given), q)
		checkRoom(t, given)
		checkApart(t, q, func(q api.Queue) (api.Queue, api.Item) { return queue.Own(q), api.Item{} })
	}
	checkQueue(t, queue.Own(api.Queue{Items: []api.Item{}}), api.Queue{})
}

// C1: Put.
func TestPut(t *testing.T) {
	wrong := api.Note{Props: []api.Prop{{Key: "NO KEY", Kind: 9}}, Body: make([]byte, 300)}
	for _, q := range []api.Queue{{Name: "q", Limit: 1}, {Name: "q", Limit: 1, Items: []api.Item{}}, sample(), allOut()} {
		for _, id := range []int{0, 1, 10, 1000000, math.MaxInt, -1, math.MinInt} {
			for _, n := range []api.Note{{}, {Props: []api.Prop{}, Body: []byte{}}, letter('x'), wrong} {
				want := q
				want.Items = append(slices.Clone(q.Items), api.Item{ID: id, Note: n})
				got, err := queue.Put(q, id, n)
				checkErr(t, err, api.OK)
				checkQueue(t, got, want)
			}
		}
	}
}

func TestPutUpToLimit(t *testing.T) {
	for _, limit := range []int{1, 2, api.MaxItems} {
		q := api.Queue{Name: "q", Limit: limit}
		for id := range limit {
			out, err := queue.Put(q, id, letter('x'))
			checkErr(t, err, api.OK)
			q = out
		}
		got, err := queue.Put(q, limit, letter('x'))
		checkErr(t, err, api.ErrFull)
		checkQueue(t, got, api.Queue{})
	}
}

func TestPutOfNoRoom(t *testing.T) {
	for _, limit := range []int{5, 4, 1, 0, -1, math.MinInt} {
		for _, q := range []api.Queue{sample(), allOut()} {
			q.Limit = limit
			got, err := queue.Put(q, 10, letter('x'))
			checkErr(t, err, api.ErrFull)
			checkQueue(t, got, api.Queue{})
		}
	}
	for _, limit := range []int{0, -1, math.MinInt} {
		got, err := queue.Put(api.Queue{Name: "q", Limit: limit}, 0, api.Note{})
		checkErr(t, err, api.ErrFull)
		checkQueue(t, got, api.Queue{})
	}
}

func TestPutSharesNothing(t *testing.T) {
	for _, n := range []api.Note{{}, letter('x')} {
		for _, q := range []api.Queue{{Name: "q", Limit: 1}, sample()} {
			checkApart(t, q, func(q api.Queue) (api.Queue, api.Item) {
				out, _ := queue.Put(q, 10, n)
				return out, api.Item{}
			})
			given := roomyNote(n)
			want, _ := queue.Put(q, 10, n)
			got, _ := queue.Put(q, 10, given)
			spoilNote(given)
			checkQueue(t, got, want)
			given = roomyNote(n)
			got, _ = queue.Put(q, 10, given)
			spoil(got)
			checkNoteRoom(t, given)
			if !note.Same(given, n) {
				t.Errorf("the note that was handed in changed: %v", given)
			}
		}
	}
}

// C1: Take.
func TestTake(t *testing.T) {
	q := sample()
	for k, at := range []int{0, 2, 4} {
		now := 100 * k
		want := queue.Own(q)
		want.Items[at].Out, want.Items[at].Due = true, now+5
		want.Items[at].Turn++
		out, item, err := queue.Take(q, now)
		checkErr(t, err, api.OK)
		checkQueue(t, out, want)
		checkItem(t, item, want.Items[at])
		q = out
	}
	out, item, err := queue.Take(q, 300)
	checkErr(t, err, api.ErrNone)
	checkQueue(t, out, api.Queue{})
	checkItem(t, item, api.Item{})
}

// The document's third example, and the edges of now.
func TestTakeTellsDue(t *testing.T) {
	q := api.Queue{Name: "q", Limit: 1, Items: []api.Item{{ID: 4, Turn: 999, Tries: 2, Note: letter('a')}}}
	for now, due := range map[int]int{0: 5, 3: 8, 999999: 1000004, 1000000: 1000005} {
		want := api.Item{ID: 4, Turn: 1000, Tries: 2, Out: true, Due: due, Note: letter('a')}
		out, item, err := queue.Take(q, now)
		checkErr(t, err, api.OK)
		checkItem(t, item, want)
		checkQueue(t, out, api.Queue{Name: "q", Limit: 1, Items: []api.Item{want}})
	}
}

// An item that is late is given still: only Back makes it wait again.
func TestTakeOfNone(t *testing.T) {
	for _, q := range []api.Queue{{}, {Name: "q", Limit: 8}, {Name: "q", Limit: 8, Items: []api.Item{}}, allOut()} {
		for _, now := range []int{0, 9, 1000000, -1, math.MinInt, math.MaxInt} {
			out, item, err := queue.Take(q, now)
			checkErr(t, err, api.ErrNone)
			checkQueue(t, out, api.Queue{})
			checkItem(t, item, api.Item{})
		}
	}
}

func TestTakeSharesNothing(t *testing.T) {
	for _, q := range []api.Queue{sample(), allOut(), {Name: "q", Limit: 1, Items: []api.Item{{}}}} {
		checkApart(t, q, func(q api.Queue) (api.Queue, api.Item) {
			out, item, _ := queue.Take(q, 50)
			return out, item
		})
	}
}

// strangers: who was given nothing of the sample, by ID and Turn.
func strangers() [][2]int {
	return [][2]int{
		{3, 0}, {3, 2}, {3, -1}, {6, 1}, {6, 6}, {6, 8}, // another turn
		{7, 1}, {1, 1}, {0, 0}, {-3, 1}, {1, 3}, {7, 6}, {math.MaxInt, math.MinInt}, // no such item
		{2, 4}, {5, 0}, {9, 0}, // waiting
	}
}

// C1: Done.
func TestDone(t *testing.T) {
	for _, c := range []struct{ id, turn, at int }{{3, 1, 1}, {6, 7, 3}} {
		got, err := queue.Done(sample(), c.id, c.turn)
		checkErr(t, err, api.OK)
		checkQueue(t, got, but(func(q *api.Queue) { q.Items = slices.Delete(q.Items, c.at, c.at+1) }))
	}
	for at, i := range allOut().Items {
		got, err := queue.Done(allOut(), i.ID, i.Turn)
		want := allOut()
		want.Items = slices.Delete(want.Items, at, at+1)
		checkErr(t, err, api.OK)
		checkQueue(t, got, want)
	}
	alone := api.Queue{Name: "q", Limit: 1, Items: []api.Item{{Out: true}}}
	got, err := queue.Done(alone, 0, 0)
	checkErr(t, err, api.OK)
	checkQueue(t, got, api.Queue{Name: "q", Limit: 1})
}

func TestDoneOfNone(t *testing.T) {
	for _, s := range strangers() {
		for _, q := range []api.Queue{sample(), {}, {Name: "q", Limit: 8, Items: []api.Item{}}} {
			got, err := queue.Done(q, s[0], s[1])
			checkErr(t, err, api.ErrNone)
			checkQueue(t, got, api.Queue{})
		}
	}
}

// twice is a queue in which an ID stands more than once: such ones come of a journal's entries.
func twice() api.Queue {
	return api.Queue{Name: "q", Limit: 1, Items: []api.Item{
		{ID: 1, Turn: 1, Note: letter('a')},
		{ID: 1, Turn: 2, Out: true, Due: 5, Note: letter('b')},
		{ID: 1, Turn: 1, Out: true, Due: 5, Note: letter('c')},
		{ID: 1, Turn: 1, Out: true, Due: 5, Note: letter('d')},
	}}
}

func TestDoneTakesOneAlone(t *testing.T) {
	want := twice()
	want.Items = slices.Delete(want.Items, 2, 3)
	got, err := queue.Done(twice(), 1, 1)
	checkErr(t, err, api.OK)
	checkQueue(t, got, want)
}

func TestDoneSharesNothing(t *testing.T) {
	for _, id := range []int{3, 8} {
		checkApart(t, sample(), func(q api.Queue) (api.Queue, api.Item) {
			out, _ := queue.Done(q, id, 1)
			return out, api.Item{}
		})
	}
}

// C1: Back.
func TestBack(t *testing.T) {
	for at, i := range allOut().Items {
		for tries := range api.MaxTries + 2 {
			q := allOut()
			q.Items[at].Tries = tries
			want := queue.Own(q)
			want.Items[at].Out, want.Items[at].Due, want.Items[at].Tries = false, 0, tries+1
			wantItem, wantGone := api.Item{}, tries+1 >= api.MaxTries
			if wantGone {
				wantItem = want.Items[at]
				want.Items = slices.Delete(want.Items, at, at+1)
			}
			out, item, gone, err := queue.Back(q, i.ID, i.Turn)
			checkErr(t, err, api.OK)
			checkQueue(t, out, want)
			checkItem(t, item, wantItem)
			if gone != wantGone {
				t.Errorf("an item that came back %d times goes: %v", tries+1, gone)
			}
		}
	}
}

func TestBackOfTheSample(t *testing.T) {
	out, item, gone, err := queue.Back(sample(), 3, 1)
	checkErr(t, err, api.OK)
	checkItem(t, item, api.Item{})
	checkQueue(t, out, but(func(q *api.Queue) { q.Items[1] = api.Item{ID: 3, Turn: 1, Tries: 1, Note: letter('b')} }))
	if gone {
		t.Error("an item that came back once goes")
	}
	out, item, gone, err = queue.Back(sample(), 6, 7)
	checkErr(t, err, api.OK)
	checkItem(t, item, api.Item{ID: 6, Turn: 7, Tries: 3, Note: letter('d')})
	checkQueue(t, out, but(func(q *api.Queue) { q.Items = slices.Delete(q.Items, 3, 4) }))
	if !gone {
		t.Error("an item that came back three times stays")
	}
}

func TestBackOfNone(t *testing.T) {
	for _, s := range strangers() {
		for _, q := range []api.Queue{sample(), {}, {Name: "q", Limit: 8, Items: []api.Item{}}} {
			out, item, gone, err := queue.Back(q, s[0], s[1])
			checkErr(t, err, api.ErrNone)
			checkQueue(t, out, api.Queue{})
			checkItem(t, item, api.Item{})
			if gone {
				t.Error("an item goes beside an error")
			}
		}
	}
}

func TestBackTakesOneAlone(t *testing.T) {
	want := twice()
	want.Items[2].Out, want.Items[2].Due, want.Items[2].Tries = false, 0, 1
	out, _, _, err := queue.Back(twice(), 1, 1)
	checkErr(t, err, api.OK)
	checkQueue(t, out, want)
}

func TestBackSharesNothing(t *testing.T) {
	for _, s := range [][2]int{{3, 1}, {6, 7}, {8, 1}} {
		checkApart(t, sample(), func(q api.Queue) (api.Queue, api.Item) {
			out, item, _, _ := queue.Back(q, s[0], s[1])
			return out, item
		})
	}
}

// C1: Late: the first one by place, not by Due, at its Due already; who waits is never late.
func TestLate(t *testing.T) {
	tests := []struct {
		now, at int
	}{
		{0, -1}, {7, -1}, {9, -1}, {10, 3}, {11, 3}, {19, 3}, {20, 1}, {21, 1}, {1000000, 1},
		{-1, -1}, {math.MinInt, -1}, {math.MaxInt, 1},
	}
	for _, c := range tests {
		want := api.Item{}
		if c.at >= 0 {
			want = sample().Items[c.at]
		}
		given := roomy(sample())
		item, ok := queue.Late(given, c.now)
		checkItem(t, item, want)
		if ok != (c.at >= 0) {
			t.Errorf("at %d one is late: %v", c.now, ok)
		}
		spoilNote(item.Note)
		checkQueue(t, given, sample())
		checkRoom(t, given)
		item, _ = queue.Late(given, c.now)
		spoil(given)
		checkItem(t, item, want)
	}
}

func TestLateOfNone(t *testing.T) {
	for _, q := range []api.Queue{{}, {Name: "q", Limit: 8, Items: []api.Item{}}, noneOut()} {
		for _, now := range []int{0, 20, 1000000, math.MaxInt} {
			item, ok := queue.Late(q, now)
			checkItem(t, item, api.Item{})
			if ok {
				t.Errorf("one of %v is late at %d", q, now)
			}
		}
	}
}

// C1: Purge.
func TestPurge(t *testing.T) {
	tests := []struct {
		name    string
		q, want api.Queue
		ids     []int
	}{
		{"some", sample(), but(func(q *api.Queue) { q.Items = []api.Item{q.Items[1], q.Items[3]} }), []int{2, 5, 9}},
		{"all given", allOut(), allOut(), nil},
		{"none given", noneOut(), api.Queue{Name: "abc", Limit: 6}, []int{2, 3, 5, 6, 9}},
		{"no items", api.Queue{Name: "q", Limit: 8, Items: []api.Item{}}, api.Queue{Name: "q", Limit: 8}, nil},
		{"nothing", api.Queue{}, api.Queue{}, nil},
		{"an ID more than once", twice(), func() api.Queue { q := twice(); q.Items = q.Items[1:]; return q }(), []int{1}},
		{"IDs that don't rise", api.Queue{Items: []api.Item{{ID: 5}, {ID: -4}, {ID: 5}, {ID: 0}}}, api.Queue{}, []int{5, -4, 5, 0}},
	}
	for _, c := range tests {
		t.Run(c.name, func(t *testing.T) {
			got, ids := queue.Purge(c.q)
			checkQueue(t, got, c.want)
			if !slices.Equal(ids, c.ids) {
				t.Errorf("%v go, not %v", ids, c.ids)
			}
			checkApart(t, c.q, func(q api.Queue) (api.Queue, api.Item) {
				out, _ := queue.Purge(q)
				return out, api.Item{}
			})
		})
	}
}

// The document's fourth example: put, taken, and due: it came back once; and it is first again.
func TestThereAndBack(t *testing.T) {
	q := api.Queue{Name: "q", Limit: 2}
	q, _ = queue.Put(q, 0, letter('a'))
	q, _ = queue.Put(q, 1, letter('b'))
	for tries := range api.MaxTries {
		now := 10 * tries
		out, item, err := queue.Take(q, now)
		checkErr(t, err, api.OK)
		checkItem(t, item, api.Item{Turn: tries + 1, Tries: tries, Out: true, Due: now + 5, Note: letter('a')})
		if _, ok := queue.Late(out, now+4); ok {
			t.Error("it is late ahead of its time")
		}
		late, ok := queue.Late(out, now+5)
		checkItem(t, late, item)
		if !ok {
			t.Error("it is not late at its time")
		}
		back, went, gone, err := queue.Back(out, late.ID, late.Turn)
		checkErr(t, err, api.OK)
		if gone != (tries == api.MaxTries-1) || gone != (went.Tries == api.MaxTries) {
			t.Errorf("behind %d tries it goes: %v, %v", tries+1, gone, went)
		}
		_, err = queue.Done(back, late.ID, late.Turn)
		checkErr(t, err, api.ErrNone)
		q = back
	}
	checkQueue(t, q, api.Queue{Name: "q", Limit: 2, Items: []api.Item{{ID: 1, Note: letter('b')}}})
}

// book keeps a queue's items by their ID, and finds the order by these: another way to the same.
type book struct {
	limit, next int
	items       map[int]api.Item
}

func (b *book) inTurn() []api.Item {
	var out []api.Item
	for id := range b.next {
		if i, ok := b.items[id]; ok {
			out = append(out, i)
		}
	}
	return out
}

func (b *book) put() api.Errno {
	if len(b.items) >= b.limit {
		return api.ErrFull
	}
	b.items[b.next] = api.Item{ID: b.next}
	b.next++
	return api.OK
}

func (b *book) take(now int) api.Errno {
	for _, i := range b.inTurn() {
		if !i.Out {
			b.items[i.ID] = api.Item{ID: i.ID, Turn: i.Turn + 1, Tries: i.Tries, Out: true, Due: now + api.MaxOut}
			return api.OK
		}
	}
	return api.ErrNone
}

func (b *book) done(id, turn int) api.Errno {
	if i, ok := b.items[id]; !ok || !i.Out || i.Turn != turn {
		return api.ErrNone
	}
	delete(b.items, id)
	return api.OK
}

func (b *book) back(id, turn int) api.Errno {
	i := b.items[id]
	if err := b.done(id, turn); err != api.OK || i.Tries+1 >= api.MaxTries {
		return err
	}
	b.items[id] = api.Item{ID: id, Turn: turn, Tries: i.Tries + 1}
	return api.OK
}

func (b *book) purge() {
	for id, i := range b.items {
		if !i.Out {
			delete(b.items, id)
		}
	}
}

// step does what c asks for, in the book and in the queue, and answers what both tell.
func step(b *book, q api.Queue, c byte, now int) (api.Queue, api.Errno, api.Errno) {
	id, turn := int(c>>3)%4+max(b.next-4, 0), int(c>>5)%4
	switch c % 5 {
	case 0:
		out, err := queue.Put(q, b.next, api.Note{})
		return out, err, b.put()
	case 1:
		out, _, err := queue.Take(q, now)
		return out, err, b.take(now)
	case 2:
		out, err := queue.Done(q, id, turn)
		return out, err, b.done(id, turn)
	case 3:
		out, _, _, err := queue.Back(q, id, turn)
		return out, err, b.back(id, turn)
	}
	b.purge()
	out, _ := queue.Purge(q)
	return out, api.OK, api.OK
}

func FuzzSteps(f *testing.F) {
	f.Add([]byte{})
	f.Add([]byte("\x00\x00\x00\x00\x00\x01\x01\x22\x23\x04"))
	f.Add([]byte(strings.Repeat("\x00\x01\x28\x23", 5)))
	for seed := range 50 {
		var steps []byte
		for k := range 200 {
			steps = append(steps, byte((seed*131+k*k*17+k*seed*29)>>2))
		}
		f.Add(steps)
	}
	f.Fuzz(func(t *testing.T, steps []byte) {
		b := &book{limit: 4, items: map[int]api.Item{}}
		q := api.Queue{Name: "q", Limit: b.limit}
		for now, c := range steps {
			out, got, want := step(b, q, c, now)
			if got != want {
				t.Fatalf("step %d (%d) tells %d, not %d", now, c, got, want)
			}
			if got == api.OK {
				q = out
			} else if !sameQueue(out, api.Queue{}) {
				t.Fatalf("step %d (%d) answers %v beside an error", now, c, out)
			}
			if !slices.EqualFunc(q.Items, b.inTurn(), sameItem) {
				t.Fatalf("behind step %d (%d) there are %v, not %v", now, c, q.Items, b.inTurn())
			}
		}
	})
}
