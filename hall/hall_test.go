package hall_test

import (
	"math"
	"slices"
	"strings"
	"testing"

	"trivetgate/api"
	"trivetgate/hall"
	"trivetgate/note"
)

// D1: Own.
func TestOwn(t *testing.T) {
	for _, h := range append(others(), sample()) {
		given := roomy(h)
		check(t, told{h: hall.Own(given)}, told{h: h})
		checkRoom(t, given)
		checkApart(t, h, func(h api.Hall) told { return told{h: hall.Own(h)} })
	}
}

// D1: Find.
func TestFind(t *testing.T) {
	for name, want := range map[string]int{
		"work": work, "dead": dead, "b": b,
		"": -1, "a": -1, "wor": -1, "works": -1, "B": -1, "b ": -1, "room": -1, "\x00": -1,
	} {
		given := roomy(sample())
		if got := hall.Find(given, name); got != want {
			t.Errorf("%q is at %d, not %d", name, got, want)
		}
		checkRoom(t, given)
		if got := hall.Find(api.Hall{}, name); got != -1 {
			t.Errorf("%q is at %d of no queues", name, got)
		}
	}
}

// D1: Make.
func TestMake(t *testing.T) {
	for _, h := range []api.Hall{{}, {Queues: []api.Queue{}}, {Next: 7}, sample()} {
		for _, name := range []string{"a", "z", "abcdefgh", "wor", "room"} {
			for limit := 1; limit <= api.MaxItems; limit++ {
				want := hall.Own(h)
				want.Queues = append(want.Queues, api.Queue{Name: name, Limit: limit})
				check(t, tell(hall.Make(h, name, limit)), told{h: want, es: []api.Entry{{Kind: api.EnMake, Queue: name, N: limit}}})
			}
		}
		checkApart(t, h, func(h api.Hall) told { return tell(hall.Make(h, "abc", 3)) })
	}
}

// full is the sample with as many queues as may be.
func full() api.Hall {
	return but(func(h *api.Hall) { h.Queues = append(h.Queues, api.Queue{Name: "last", Limit: 8}) })
}

func TestMakeTellsTheFirstError(t *testing.T) {
	over := full()
	over.Queues = append(over.Queues, api.Queue{Name: "over", Limit: 1})
	tests := []struct {
		name  string
		h     api.Hall
		queue string
		limit int
		want  api.Errno
	}{
		{"a queue's name", sample(), "work", 3, api.ErrName},
		{"the last queue's name", sample(), "b", 3, api.ErrName},
		{"no name", sample(), "", 3, api.ErrName},
		{"nine bytes", sample(), "abcdefghi", 3, api.ErrName},
		{"a great letter", sample(), "Work", 3, api.ErrName},
		{"behind z", sample(), "a{", 3, api.ErrName},
		{"a number", sample(), "a1", 3, api.ErrName},
		{"a byte that is no letter", sample(), "a\xff", 3, api.ErrName},
		{"very long", sample(), strings.Repeat("a", 100000), 3, api.ErrName},
		{"limit 0", sample(), "a", 0, api.ErrRange},
		{"limit -1", sample(), "a", -1, api.ErrRange},
		{"limit 9", sample(), "a", api.MaxItems + 1, api.ErrRange},
		{"the least limit", sample(), "a", math.MinInt, api.ErrRange},
		{"the greatest limit", sample(), "a", math.MaxInt, api.ErrRange},
		{"four queues", full(), "a", 3, api.ErrMany},
		{"five queues", over, "a", 3, api.ErrMany},
		{"a queue's name, and a limit", sample(), "dead", 0, api.ErrName},
		{"no key, and a limit", sample(), "A", 9, api.ErrName},
		{"a queue's name, and four queues", full(), "last", 3, api.ErrName},
		{"a limit, and four queues", full(), "a", 0, api.ErrRange},
		{"all of it", full(), "", 0, api.ErrName},
	}
	for _, c := range tests {
		t.Run(c.name, func(t *testing.T) {
			checkErr(t, tell(hall.Make(c.h, c.queue, c.limit)), c.want)
			checkApart(t, c.h, func(h api.Hall) told { return tell(hall.Make(h, c.queue, c.limit)) })
		})
	}
}

// D1: Drop.
func TestDrop(t *testing.T) {
	for at, name := range []string{"work", "dead", "b"} {
		want := but(func(h *api.Hall) { h.Queues = slices.Delete(h.Queues, at, at+1) })
		check(t, tell(hall.Drop(sample(), name)), told{h: want, es: []api.Entry{{Kind: api.EnDrop, Queue: name}}})
		checkApart(t, sample(), func(h api.Hall) told { return tell(hall.Drop(h, name)) })
	}
	alone := api.Hall{Next: 3, Queues: []api.Queue{{Name: "q", Limit: 1}}}
	check(t, tell(hall.Drop(alone, "q")), told{h: api.Hall{Next: 3}, es: []api.Entry{{Kind: api.EnDrop, Queue: "q"}}})
}

// strange are names of none of the sample's queues.
func strange() []string {
	return []string{"", "a", "wor", "works", "WORK", "room", "no key", "\xff"}
}

func TestNoSuchQueue(t *testing.T) {
	for _, name := range strange() {
		for _, h := range []api.Hall{sample(), {}, {Queues: []api.Queue{}}} {
			checkErr(t, tell(hall.Drop(h, name)), api.ErrNone)
			checkErr(t, tell(hall.Put(h, name, letter('x'))), api.ErrNone)
			checkErr(t, tellItem(hall.Take(h, name, 50)), api.ErrNone)
			checkErr(t, tell(hall.Done(h, api.Tag{Queue: name, ID: 3, Turn: 1})), api.ErrNone)
			checkErr(t, tell(hall.Back(h, api.Tag{Queue: name, ID: 3, Turn: 1})), api.ErrNone)
			checkErr(t, tell(hall.Purge(h, name)), api.ErrNone)
		}
	}
}

// D1: Put.
func TestPut(t *testing.T) {
	for at, name := range []string{"work", "dead"} {
		for _, n := range []api.Note{{}, {Props: []api.Prop{}, Body: []byte{}}, letter('x'), {Body: make([]byte, api.MaxBody)}} {
			want := but(func(h *api.Hall) { lay(h, at, n) })
			check(t, tell(hall.Put(sample(), name, n)), told{h: want, es: []api.Entry{putOf(name, 10, n)}})
			checkApart(t, sample(), func(h api.Hall) told { return tell(hall.Put(h, name, n)) })
		}
	}
}

// The IDs go on over all queues, and none comes again.
func TestPutCounts(t *testing.T) {
	h := api.Hall{Next: 999998, Queues: []api.Queue{{Name: "a", Limit: 3}, {Name: "c", Limit: 3}}}
	for k, name := range []string{"a", "c", "a"} {
		x, es, err := hall.Put(h, name, letter('x'))
		if err != api.OK || len(es) != 1 || es[0].ID != 999998+k || x.Next != 999999+k {
			t.Fatalf("%v, %v, %d", x, es, err)
		}
		h = x
	}
	want := api.Hall{Next: 1000001, Queues: []api.Queue{
		{Name: "a", Limit: 3, Items: []api.Item{{ID: 999998, Note: letter('x')}, {ID: 1000000, Note: letter('x')}}},
		{Name: "c", Limit: 3, Items: []api.Item{{ID: 999999, Note: letter('x')}}},
	}}
	check(t, told{h: h}, told{h: want})
	h, _, _ = hall.Drop(h, "c")
	h, es, _ := hall.Put(h, "a", api.Note{})
	if h.Next != 1000002 || es[0].ID != 1000001 {
		t.Errorf("behind a queue that went the number is %d, and then %d", es[0].ID, h.Next)
	}
}

func TestPutTellsTheFirstError(t *testing.T) {
	prop := func(p api.Prop) api.Note { return api.Note{Props: []api.Prop{p}} }
	wrong := []struct {
		n    api.Note
		want api.Errno
	}{
		{api.Note{Props: make([]api.Prop, api.MaxProps+1)}, api.ErrMany},
		{prop(api.Prop{Key: "NO", Kind: api.PropInt}), api.ErrName},
		{prop(api.Prop{Key: "k", Kind: 4}), api.ErrKind},
		{prop(api.Prop{Key: "k", Kind: api.PropFlag, N: 2}), api.ErrRange},
		{prop(api.Prop{Key: "k", Kind: api.PropText, N: 1}), api.ErrForm},
		{api.Note{Body: make([]byte, api.MaxBody+1)}, api.ErrMuch},
	}
	for _, c := range wrong {
		for _, name := range []string{"work", "b", "none", ""} {
			checkErr(t, tell(hall.Put(sample(), name, c.n)), c.want)
		}
	}
	checkErr(t, tell(hall.Put(sample(), "b", letter('x'))), api.ErrFull)
	checkApart(t, sample(), func(h api.Hall) told { return tell(hall.Put(h, "b", letter('x'))) })
}

func TestPutUpToLimit(t *testing.T) {
	for limit := 1; limit <= api.MaxItems; limit++ {
		h, _, _ := hall.Make(api.Hall{}, "q", limit)
		for range limit {
			x, _, err := hall.Put(h, "q", letter('x'))
			if err != api.OK {
				t.Fatalf("of %d there is no room for %d more", limit, limit-len(h.Queues[0].Items))
			}
			h = x
		}
		checkErr(t, tell(hall.Put(h, "q", letter('x'))), api.ErrFull)
	}
}

func TestPutSharesNoNote(t *testing.T) {
	for _, n := range []api.Note{{}, letter('x')} {
		want := tell(hall.Put(sample(), "work", n))
		given := roomyNote(n)
		got := tell(hall.Put(sample(), "work", given))
		spoilNote(given)
		check(t, got, want)
		given = roomyNote(n)
		got = tell(hall.Put(sample(), "work", given))
		spoilHall(got.h)
		spoilEntries(got.es)
		checkNoteRoom(t, given)
		if !note.Same(given, n) {
			t.Errorf("the note that was handed in changed: %v", given)
		}
	}
}

// D2: Take.
func TestTake(t *testing.T) {
	for now, due := range map[int]int{0: 5, 3: 8, 1000000: 1000005} {
		want := api.Item{ID: 1, Turn: 5, Tries: 2, Out: true, Due: due, Note: letter('a')}
		check(t, tellItem(hall.Take(sample(), "work", now)), told{h: but(func(h *api.Hall) { h.Queues[work].Items[0] = want }), item: want})
	}
	first := tellItem(hall.Take(sample(), "work", 3))
	want := api.Item{ID: 9, Turn: 1, Out: true, Due: 9, Note: letter('d')}
	second := tellItem(hall.Take(first.h, "work", 4))
	wantHall := hall.Own(first.h)
	wantHall.Queues[work].Items[3] = want
	check(t, second, told{h: wantHall, item: want})
	checkErr(t, tellItem(hall.Take(second.h, "work", 5)), api.ErrMore)
	checkApart(t, sample(), func(h api.Hall) told { return tellItem(hall.Take(h, "work", 3)) })
}

// What is late is given still: only Back and Tick have it wait again.
func TestTakeOfNone(t *testing.T) {
	empty := api.Hall{Queues: []api.Queue{{Name: "b", Limit: 8, Items: []api.Item{}}, {Name: "dead", Limit: 1}}}
	for _, now := range []int{0, 12, 1000000, -1, math.MinInt, math.MaxInt} {
		for _, name := range []string{"b", "dead"} {
			checkErr(t, tellItem(hall.Take(sample(), name, now)), api.ErrMore)
			checkErr(t, tellItem(hall.Take(empty, name, now)), api.ErrMore)
		}
	}
}

// givenOf answers the tags of all that is given in h.
func givenOf(h api.Hall) []api.Tag {
	var out []api.Tag
	for _, q := range h.Queues {
		for _, i := range q.Items {
			if i.Out {
				out = append(out, api.Tag{N: len(out) + 5, Queue: q.Name, ID: i.ID, Turn: i.Turn})
			}
		}
	}
	return out
}

// strangers are tags of nothing that is given in the sample, but of queues that there are.
func strangers() []api.Tag {
	return []api.Tag{
		{Queue: "work", ID: 3, Turn: 0}, {Queue: "work", ID: 3, Turn: 2}, {Queue: "work", ID: 6, Turn: 1}, // another turn
		{Queue: "work", ID: 1, Turn: 4}, {Queue: "work", ID: 9}, {Queue: "work", ID: 9, Turn: 1}, // waiting
		{Queue: "dead", ID: 3, Turn: 1}, {Queue: "b", ID: 3, Turn: 1}, {Queue: "work", ID: 4, Turn: 2}, {Queue: "dead", ID: 7, Turn: 3}, // another queue
		{Queue: "work"}, {Queue: "work", ID: -1, Turn: -1}, {Queue: "work", ID: math.MaxInt, Turn: math.MinInt}, {N: 3, Queue: "work"}, // no such item
	}
}

// D2: Done. N of a tag means nothing to a hall.
func TestDone(t *testing.T) {
	places := map[int][2]int{3: {work, 1}, 6: {work, 2}, 4: {dead, 0}, 7: {b, 0}}
	tags := givenOf(sample())
	if len(tags) != len(places) {
		t.Fatalf("given are %v", tags)
	}
	for _, tag := range tags {
		p := places[tag.ID]
		want := but(func(h *api.Hall) { drop(h, p[0], p[1]) })
		check(t, tell(hall.Done(sample(), tag)), told{h: want, es: []api.Entry{goneOf(tag.Queue, tag.ID)}})
		checkErr(t, tell(hall.Done(want, tag)), api.ErrNone)
		checkErr(t, tell(hall.Back(want, tag)), api.ErrNone)
		checkApart(t, sample(), func(h api.Hall) told { return tell(hall.Done(h, tag)) })
	}
	for _, tag := range strangers() {
		checkErr(t, tell(hall.Done(sample(), tag)), api.ErrNone)
		checkApart(t, sample(), func(h api.Hall) told { return tell(hall.Done(h, tag)) })
	}
}

// D2: Purge.
func TestPurge(t *testing.T) {
	want := but(func(h *api.Hall) { h.Queues[work].Items = h.Queues[work].Items[1:3] })
	check(t, tell(hall.Purge(sample(), "work")), told{h: want, es: []api.Entry{goneOf("work", 1), goneOf("work", 9)}})
	check(t, tell(hall.Purge(want, "work")), told{h: want})
	check(t, tell(hall.Purge(sample(), "dead")), told{h: sample()})
	check(t, tell(hall.Purge(sample(), "b")), told{h: sample()})
	for _, name := range []string{"work", "dead"} {
		checkApart(t, sample(), func(h api.Hall) told { return tell(hall.Purge(h, name)) })
	}
	waiting := api.Hall{Next: 9, Queues: []api.Queue{
		{Name: "a", Limit: 3, Items: []api.Item{{ID: 2}, {ID: 5, Tries: 2, Turn: 6}, {ID: 8}}},
		{Name: "c", Limit: 3, Items: []api.Item{{ID: 3}}},
	}}
	left := hall.Own(waiting)
	left.Queues[0].Items = nil
	check(t, tell(hall.Purge(waiting, "a")), told{h: left, es: []api.Entry{goneOf("a", 2), goneOf("a", 5), goneOf("a", 8)}})
}

// D2: Plain.
func TestPlain(t *testing.T) {
	want := api.Hall{Next: 10, Queues: []api.Queue{
		{Name: "work", Limit: 5, Items: []api.Item{{ID: 1, Note: letter('a')}, {ID: 3, Note: letter('b')}, {ID: 6, Note: letter('c')}, {ID: 9, Note: letter('d')}}},
		{Name: "dead", Limit: 2, Items: []api.Item{{ID: 4, Note: letter('e')}}},
		{Name: "b", Limit: 1, Items: []api.Item{{ID: 7, Note: letter('f')}}},
	}}
	check(t, told{h: hall.Plain(sample())}, told{h: want})
	check(t, told{h: hall.Plain(want)}, told{h: want})
	for _, h := range others() {
		check(t, told{h: hall.Plain(h)}, told{h: h})
		checkApart(t, h, func(h api.Hall) told { return told{h: hall.Plain(h)} })
	}
	checkApart(t, sample(), func(h api.Hall) told { return told{h: hall.Plain(h)} })
}
