package hall_test

import (
	"math"
	"slices"
	"testing"

	"trivetgate/api"
	"trivetgate/hall"
)

// The tags of what is given in the sample.
var (
	tagThree = api.Tag{N: 8, Queue: "work", ID: 3, Turn: 1}
	tagSix   = api.Tag{N: 2, Queue: "work", ID: 6, Turn: 7}
	tagFour  = api.Tag{Queue: "dead", ID: 4, Turn: 2}
	tagSeven = api.Tag{N: -1, Queue: "b", ID: 7, Turn: 3}
)

// D2: Back, of items that wait again.
func TestBackWaitsAgain(t *testing.T) {
	want := but(func(h *api.Hall) { h.Queues[work].Items[1] = api.Item{ID: 3, Turn: 1, Tries: 1, Note: letter('b')} })
	check(t, tell(hall.Back(sample(), tagThree)), told{h: want})
	want = but(func(h *api.Hall) { h.Queues[b].Items[0] = api.Item{ID: 7, Turn: 3, Tries: 2, Note: letter('f')} })
	check(t, tell(hall.Back(sample(), tagSeven)), told{h: want})
	for _, tag := range []api.Tag{tagThree, tagSeven} {
		checkApart(t, sample(), func(h api.Hall) told { return tell(hall.Back(h, tag)) })
	}
}

// D2: Back, of items that go: where they go to hangs on the queue dead.
func TestBackGoes(t *testing.T) {
	noDead := but(func(h *api.Hall) { h.Queues = slices.Delete(h.Queues, dead, dead+1) })
	fullDead := but(func(h *api.Hall) { h.Queues[dead].Limit = 1 })
	firstDead := but(func(h *api.Hall) { h.Queues[work], h.Queues[dead] = h.Queues[dead], h.Queues[work] })
	otherDead := but(func(h *api.Hall) { h.Queues[dead].Name = "deadly" })
	tests := []struct {
		name string
		h    api.Hall
		tag  api.Tag
		want func(h *api.Hall)
		es   []api.Entry
	}{
		{"room", sample(), tagSix, func(h *api.Hall) { drop(h, 0, 2); lay(h, 1, letter('c')) }, []api.Entry{goneOf("work", 6), putOf("dead", 10, letter('c'))}},
		{"room, ahead of it", firstDead, tagSix, func(h *api.Hall) { drop(h, 1, 2); lay(h, 0, letter('c')) }, []api.Entry{goneOf("work", 6), putOf("dead", 10, letter('c'))}},
		{"no room", fullDead, tagSix, func(h *api.Hall) { drop(h, 0, 2) }, []api.Entry{goneOf("work", 6)}},
		{"no dead", noDead, tagSix, func(h *api.Hall) { drop(h, 0, 2) }, []api.Entry{goneOf("work", 6)}},
		{"nearly dead", otherDead, tagSix, func(h *api.Hall) { drop(h, 0, 2) }, []api.Entry{goneOf("work", 6)}},
		{"of dead itself", sample(), tagFour, func(h *api.Hall) { drop(h, 1, 0) }, []api.Entry{goneOf("dead", 4)}},
		{"of dead itself, which is full", fullDead, tagFour, func(h *api.Hall) { drop(h, 1, 0) }, []api.Entry{goneOf("dead", 4)}},
	}
	for _, c := range tests {
		t.Run(c.name, func(t *testing.T) {
			want := hall.Own(c.h)
			c.want(&want)
			check(t, tell(hall.Back(c.h, c.tag)), told{h: want, es: c.es})
			checkErr(t, tell(hall.Back(want, c.tag)), api.ErrNone)
			checkApart(t, c.h, func(h api.Hall) told { return tell(hall.Back(h, c.tag)) })
		})
	}
}

func TestBackOfNone(t *testing.T) {
	for _, tag := range strangers() {
		checkErr(t, tell(hall.Back(sample(), tag)), api.ErrNone)
		checkApart(t, sample(), func(h api.Hall) told { return tell(hall.Back(h, tag)) })
	}
}

// What came back, and was given anew, has another turn: who had it first has nothing to say.
func TestWhoIsLateHasNothingToSay(t *testing.T) {
	h, _, _ := hall.Make(api.Hall{}, "q", 1)
	h, _, _ = hall.Put(h, "q", letter('x'))
	h, first, _ := hall.Take(h, "q", 0)
	h, _ = hall.Tick(h, 5)
	h, second, _ := hall.Take(h, "q", 6)
	tag := api.Tag{Queue: "q", ID: first.ID, Turn: first.Turn}
	checkErr(t, tell(hall.Done(h, tag)), api.ErrNone)
	checkErr(t, tell(hall.Back(h, tag)), api.ErrNone)
	tag.Turn = second.Turn
	check(t, tell(hall.Done(h, tag)), told{h: api.Hall{Next: 1, Queues: []api.Queue{{Name: "q", Limit: 1}}}, es: []api.Entry{goneOf("q", 0)}})
}

// D2: Tick, of the sample, at each time at which one more is late.
func TestTick(t *testing.T) {
	six := func(h *api.Hall) { drop(h, work, 2); lay(h, dead, letter('c')) }
	seven := func(h *api.Hall) { h.Queues[b].Items[0] = api.Item{ID: 7, Turn: 3, Tries: 2, Note: letter('f')} }
	four := func(h *api.Hall) { drop(h, dead, 0) }
	three := func(h *api.Hall) { h.Queues[work].Items[1] = api.Item{ID: 3, Turn: 1, Tries: 1, Note: letter('b')} }
	all := []api.Entry{goneOf("work", 6), putOf("dead", 10, letter('c')), goneOf("dead", 4)}
	tests := []struct {
		nows  []int
		steps []func(h *api.Hall)
		es    []api.Entry
	}{
		{[]int{math.MinInt, -1, 0, 9}, nil, nil},
		{[]int{10, 11}, []func(h *api.Hall){six}, all[:2]},
		{[]int{12, 14}, []func(h *api.Hall){six, seven}, all[:2]},
		{[]int{15, 19}, []func(h *api.Hall){six, four, seven}, all},
		{[]int{20, 1000000, math.MaxInt}, []func(h *api.Hall){three, six, four, seven}, all},
	}
	for _, c := range tests {
		for _, now := range c.nows {
			want := sample()
			for _, step := range c.steps {
				step(&want)
			}
			check(t, tellTick(hall.Tick(sample(), now)), told{h: want, es: c.es})
			check(t, tellTick(hall.Tick(want, now)), told{h: want})
			checkApart(t, sample(), func(h api.Hall) told { return tellTick(hall.Tick(h, now)) })
		}
	}
	for _, h := range others() {
		check(t, tellTick(hall.Tick(h, 1000000)), told{h: h})
	}
}

// lateQueue is a queue of items that are late at 9, and go then.
func lateQueue(name string, limit int, ids ...int) api.Queue {
	q := api.Queue{Name: name, Limit: limit}
	for _, id := range ids {
		q.Items = append(q.Items, api.Item{ID: id, Turn: 3, Tries: 2, Out: true, Due: 9, Note: letter(byte('a' + id))})
	}
	return q
}

// Queue by queue: what dead loses is room for those behind it alone, and what is put there is neither late nor tried.
func TestTickGoesQueueByQueue(t *testing.T) {
	a, d, z := lateQueue("a", 8, 0, 1), lateQueue("dead", 2, 2, 3), lateQueue("z", 3, 4, 5, 6)
	none := func(q api.Queue) api.Queue { q.Items = nil; return q }
	with := func(q api.Queue, items ...api.Item) api.Queue { q.Items = items; return q }
	given := api.Hall{Next: 7, Queues: []api.Queue{a, d, z}}
	check(t, tellTick(hall.Tick(given, 9)), told{
		h: api.Hall{Next: 9, Queues: []api.Queue{none(a), with(d, api.Item{ID: 7, Note: letter('e')}, api.Item{ID: 8, Note: letter('f')}), none(z)}},
		es: []api.Entry{
			goneOf("a", 0), goneOf("a", 1), goneOf("dead", 2), goneOf("dead", 3),
			goneOf("z", 4), putOf("dead", 7, letter('e')), goneOf("z", 5), putOf("dead", 8, letter('f')), goneOf("z", 6),
		},
	})
	given = api.Hall{Next: 7, Queues: []api.Queue{d, z, a}}
	check(t, tellTick(hall.Tick(given, 9)), told{
		h: api.Hall{Next: 9, Queues: []api.Queue{with(d, api.Item{ID: 7, Note: letter('e')}, api.Item{ID: 8, Note: letter('f')}), none(z), none(a)}},
		es: []api.Entry{
			goneOf("dead", 2), goneOf("dead", 3),
			goneOf("z", 4), putOf("dead", 7, letter('e')), goneOf("z", 5), putOf("dead", 8, letter('f')), goneOf("z", 6),
			goneOf("a", 0), goneOf("a", 1),
		},
	})
	checkApart(t, given, func(h api.Hall) told { return tellTick(hall.Tick(h, 9)) })
}

// Items come back by their place, not by when they were due.
func TestTickGoesItemByItem(t *testing.T) {
	q := lateQueue("q", 4, 0, 1, 2, 3)
	q.Items[0].Due, q.Items[1].Due, q.Items[2].Due = 8, 10, 3
	left := api.Queue{Name: "q", Limit: 4, Items: []api.Item{q.Items[1]}}
	check(t, tellTick(hall.Tick(api.Hall{Next: 4, Queues: []api.Queue{q}}, 9)), told{
		h:  api.Hall{Next: 4, Queues: []api.Queue{left}},
		es: []api.Entry{goneOf("q", 0), goneOf("q", 2), goneOf("q", 3)},
	})
}

// Nothing is promised of halls that are none, but that is no reason not to end.
func TestWrongHallsAreAnswered(t *testing.T) {
	alike := api.Hall{Queues: []api.Queue{lateQueue("q", 1, 1, 1), lateQueue("q", -1, 1, 2), lateQueue("dead", 0, 3), lateQueue("dead", 9, 4)}}
	odd := api.Hall{Next: math.MaxInt, Queues: []api.Queue{{Name: "q", Limit: math.MaxInt, Items: []api.Item{{ID: math.MinInt, Turn: math.MaxInt, Tries: math.MaxInt}, {Turn: -1, Tries: -9, Out: true, Due: math.MinInt}}}}}
	for _, h := range append(others(), alike, odd) {
		for _, now := range []int{math.MinInt, 9, math.MaxInt} {
			x, _ := hall.Tick(h, now)
			if again, es := hall.Tick(x, now); !sameHall(x, again) || len(es) != 0 {
				t.Errorf("at %d some of %v are late still", now, x)
			}
			hall.Take(h, "q", now)
		}
		for _, tag := range append(givenOf(h), api.Tag{}) {
			hall.Done(h, tag)
			hall.Back(h, tag)
		}
		hall.Put(h, "q", letter('x'))
		hall.Make(h, "q", 1)
		hall.Purge(h, "q")
		hall.Drop(h, "q")
		checkApart(t, h, func(h api.Hall) told { return told{h: hall.Plain(h)} })
	}
}
