package session_test

import (
	"math"
	"testing"

	"trivetgate/api"
	"trivetgate/session"
)

// refused: all is as it was, and err is said.
func refused(x state, err api.Errno) answer {
	return answer{x: x, say: sayErr(err)}
}

func done(x state) answer {
	return answer{x: x, say: sayOK}
}

// F2: what is wrong with an ask is said, and changes nothing.
func TestWrongIsSaid(t *testing.T) {
	full := but(func(x *state) { x.s.Tags = make([]api.Tag, api.MaxTags) })
	for _, a := range []api.Ask{
		{}, {Kind: 10, Queue: "work"}, {Kind: api.AskPing, Queue: "work"}, {Kind: api.AskPing, N: 1},
		{Kind: api.AskMake, Queue: "New", N: 3}, {Kind: api.AskMake, Queue: "new", N: -1}, {Kind: api.AskDrop, Queue: "work", N: 1},
		{Kind: api.AskPut, Queue: "work", Note: api.Note{Body: make([]byte, 41)}}, {Kind: api.AskTake, Queue: ""}, {Kind: api.AskTake, Queue: "work", N: 1},
		{Kind: api.AskWait, Queue: "work"}, {Kind: api.AskWait, Queue: "b", N: 10}, {Kind: api.AskWait, Queue: "b", N: 3, Note: letter('x')},
		{Kind: api.AskDone}, {Kind: api.AskDone, N: 2, Queue: "work"}, {Kind: api.AskBack, N: -2}, {Kind: api.AskBack, N: 2, Note: letter('x')}, {Kind: api.AskPurge, Queue: "work", N: 1},
	} {
		err := session.Wrong(a)
		if err == api.OK {
			t.Errorf("%v is right", a)
		}
		for _, x := range []state{sample(), full, {}} {
			check(t, do(x, a, 5), refused(x, err))
		}
	}
}

// F2: AskPing.
func TestPing(t *testing.T) {
	for _, x := range []state{{}, sample(), with(api.MaxLog + 1)} {
		check(t, do(x, api.Ask{Kind: api.AskPing}, 5), done(x))
	}
}

// F2: AskMake.
func TestMake(t *testing.T) {
	check(t, do(sample(), api.Ask{Kind: api.AskMake, Queue: "new", N: 8}, 5), done(but(func(x *state) {
		x.h.Queues = append(x.h.Queues, api.Queue{Name: "new", Limit: 8})
		x.write(t, api.Entry{Kind: api.EnMake, Queue: "new", N: 8})
	})))
	four := but(func(x *state) { x.h.Queues = append(x.h.Queues, api.Queue{Name: "d", Limit: 1}) })
	for _, c := range []struct {
		x     state
		name  string
		limit int
		want  api.Errno
	}{
		{sample(), "work", 3, api.ErrName}, {sample(), "work", 0, api.ErrName}, {sample(), "new", 0, api.ErrRange}, {sample(), "new", 9, api.ErrRange},
		{sample(), "new", api.MaxInt, api.ErrRange}, {four, "new", 0, api.ErrRange}, {four, "new", 1, api.ErrMany}, {with(api.MaxLog), "work", 3, api.ErrName},
	} {
		check(t, do(c.x, api.Ask{Kind: api.AskMake, Queue: c.name, N: c.limit}, 5), refused(c.x, c.want))
	}
}

// F2: AskDrop; the tags that speak of the queue stay.
func TestDrop(t *testing.T) {
	check(t, do(sample(), api.Ask{Kind: api.AskDrop, Queue: "work"}, 5), done(but(func(x *state) {
		x.h.Queues = x.h.Queues[1:]
		x.write(t, api.Entry{Kind: api.EnDrop, Queue: "work"})
	})))
	check(t, do(sample(), api.Ask{Kind: api.AskDrop, Queue: "new"}, 5), refused(sample(), api.ErrNone))
}

// F2: AskPut.
func TestPut(t *testing.T) {
	for _, n := range []api.Note{{}, letter('x'), largest()} {
		check(t, do(sample(), api.Ask{Kind: api.AskPut, Queue: "work", Note: n}, 5), done(but(func(x *state) {
			x.lay(work, n)
			x.write(t, putOf("work", 10, n))
		})))
		check(t, do(sample(), api.Ask{Kind: api.AskPut, Queue: "b", Note: n}, 5), refused(sample(), api.ErrFull))
		check(t, do(sample(), api.Ask{Kind: api.AskPut, Queue: "new", Note: n}, 5), refused(sample(), api.ErrNone))
	}
}

// F2: AskPurge; what is given stays.
func TestPurge(t *testing.T) {
	check(t, do(sample(), api.Ask{Kind: api.AskPurge, Queue: "work"}, 5), done(but(func(x *state) {
		x.drop(work, 3)
		x.drop(work, 0)
		x.write(t, goneOf("work", 1), goneOf("work", 9))
	})))
	check(t, do(sample(), api.Ask{Kind: api.AskPurge, Queue: "b"}, 5), done(sample()))
	check(t, do(sample(), api.Ask{Kind: api.AskPurge, Queue: "new"}, 5), refused(sample(), api.ErrNone))
}

// F2: an item that is given: its queue, its tag, and what is said.
func TestTake(t *testing.T) {
	for _, a := range []api.Ask{{Kind: api.AskTake, Queue: "work"}, {Kind: api.AskWait, Queue: "work", N: 1}, {Kind: api.AskWait, Queue: "work", N: 9}} {
		first := but(func(x *state) {
			x.h.Queues[work].Items[0] = api.Item{ID: 1, Turn: 5, Tries: 2, Out: true, Due: 105, Note: letter('a')}
			x.s.Tags = append(x.s.Tags, api.Tag{N: 9, Queue: "work", ID: 1, Turn: 5})
			x.s.Next = 9
		})
		check(t, do(sample(), a, 100), answer{x: first, say: api.Say{Kind: api.SayItem, N: 9, M: 2, Note: letter('a')}})
		check(t, do(first, a, 100), refused(first, api.ErrMany))

		second := do(state{h: first.h}, a, 0)
		first.h.Queues[work].Items[3] = api.Item{ID: 9, Turn: 1, Out: true, Due: 5, Note: letter('d')}
		check(t, second, answer{
			x:   state{h: first.h, s: api.Session{Next: 1, Tags: []api.Tag{{N: 1, Queue: "work", ID: 9, Turn: 1}}}},
			say: api.Say{Kind: api.SayItem, N: 1, Note: letter('d')},
		})
	}
}

// F2: no journal tells of what is given, so that a log without room is no hindrance.
func TestTakeWritesNothing(t *testing.T) {
	for _, size := range []int{api.MaxLog, api.MaxLog + 1} {
		got := do(with(size), api.Ask{Kind: api.AskTake, Queue: "work"}, 100)
		if got.say.Kind != api.SayItem || !sameLog(got.x.l, with(size).l) {
			t.Errorf("%v is said", got.say)
		}
	}
}

// F2: nothing waits, there is no such queue, or there are tags enough, which is asked first.
func TestTakeHasNone(t *testing.T) {
	take := func(name string) api.Ask { return api.Ask{Kind: api.AskTake, Queue: name} }
	wait := func(name string) api.Ask { return api.Ask{Kind: api.AskWait, Queue: name, N: 4} }
	check(t, do(sample(), take("b"), 5), answer{x: sample(), say: api.Say{Kind: api.SayNone}})
	check(t, do(sample(), wait("b"), 5), answer{x: sample(), err: api.ErrMore})
	check(t, do(sample(), take("new"), 5), refused(sample(), api.ErrNone))
	check(t, do(sample(), wait("new"), 5), refused(sample(), api.ErrNone))
	for _, tags := range []int{api.MaxTags, api.MaxTags + 1, 30} {
		full := but(func(x *state) { x.s.Tags = make([]api.Tag, tags) })
		for _, name := range []string{"work", "b", "new"} {
			check(t, do(full, take(name), 5), refused(full, api.ErrMany))
			check(t, do(full, wait(name), 5), refused(full, api.ErrMany))
		}
	}
}

// F2: numbers of tags go on, whichever tags there are.
func TestNext(t *testing.T) {
	for _, next := range []int{0, 1, 999999} {
		got := do(but(func(x *state) { x.s = api.Session{Next: next} }), api.Ask{Kind: api.AskTake, Queue: "work"}, 5)
		want := api.Session{Next: next + 1, Tags: []api.Tag{{N: next + 1, Queue: "work", ID: 1, Turn: 5}}}
		if !sameSession(got.x.s, want) || got.say.N != next+1 {
			t.Errorf("behind %d: the session is %v, tag %d is said", next, got.x.s, got.say.N)
		}
	}
}

// F2: AskDone.
func TestDone(t *testing.T) {
	check(t, do(sample(), api.Ask{Kind: api.AskDone, N: 2}, 5), done(but(func(x *state) {
		x.drop(work, 1)
		x.forget(0)
		x.write(t, goneOf("work", 3))
	})))
	check(t, do(sample(), api.Ask{Kind: api.AskDone, N: 5}, 5), done(but(func(x *state) {
		x.drop(work, 2)
		x.forget(1)
		x.write(t, goneOf("work", 6))
	})))
}

// F2: AskBack, of an item that waits again, of which nothing is written, and of one that goes.
func TestBack(t *testing.T) {
	check(t, do(sample(), api.Ask{Kind: api.AskBack, N: 2}, 5), done(but(func(x *state) {
		x.h.Queues[work].Items[1] = api.Item{ID: 3, Turn: 1, Tries: 1, Note: letter('b')}
		x.forget(0)
	})))
	check(t, do(sample(), api.Ask{Kind: api.AskBack, N: 5}, 5), done(but(func(x *state) {
		x.drop(work, 2)
		x.lay(dead, letter('c'))
		x.forget(1)
		x.write(t, goneOf("work", 6), putOf("dead", 10, letter('c')))
	})))
	alone := but(func(x *state) { x.h.Queues = x.h.Queues[:1] })
	check(t, do(alone, api.Ask{Kind: api.AskBack, N: 5}, 5), done(but(func(x *state) {
		x.drop(work, 2)
		x.h.Queues = x.h.Queues[:1]
		x.forget(1)
		x.write(t, goneOf("work", 6))
	})))
}

// F2: whoever is late is told so once: their tag goes; and so it does if the queue is gone.
func TestLateTagGoes(t *testing.T) {
	for _, kind := range []int{api.AskDone, api.AskBack} {
		late := but(func(x *state) { x.forget(2) })
		check(t, do(sample(), api.Ask{Kind: kind, N: 7}, 5), refused(late, api.ErrNone))
		check(t, do(late, api.Ask{Kind: kind, N: 7}, 5), refused(late, api.ErrNone))

		gone := but(func(x *state) { x.h.Queues = x.h.Queues[1:] })
		check(t, do(gone, api.Ask{Kind: kind, N: 2}, 5), refused(state{gone.h, gone.l, but(func(x *state) { x.forget(0) }).s}, api.ErrNone))
	}
}

// F2: a tag that there is not; that an item was given by it does not help.
func TestNoSuchTag(t *testing.T) {
	for _, kind := range []int{api.AskDone, api.AskBack} {
		for _, n := range []int{1, 3, 4, 6, 8, 9, api.MaxInt} {
			check(t, do(sample(), api.Ask{Kind: kind, N: n}, 5), refused(sample(), api.ErrNone))
		}
		check(t, do(state{h: sample().h}, api.Ask{Kind: kind, N: 2}, 5), refused(state{h: sample().h}, api.ErrNone))
	}
}

// F2: if two tags had one number, one of them goes: the first one.
func TestTwoTagsOfOneNumber(t *testing.T) {
	x := but(func(x *state) { x.s.Tags[1].N = 2 })
	check(t, do(x, api.Ask{Kind: api.AskDone, N: 2}, 5), done(but(func(x *state) {
		x.drop(work, 1)
		x.s.Tags[1].N = 2
		x.forget(0)
		x.write(t, goneOf("work", 3))
	})))
}

// F2: where the log has room for just so many bytes all is done, and with one byte less nothing is, tags neither.
func TestNoRoomInTheLog(t *testing.T) {
	for _, a := range []api.Ask{
		{Kind: api.AskMake, Queue: "new", N: 3}, {Kind: api.AskDrop, Queue: "work"}, {Kind: api.AskPut, Queue: "work", Note: letter('x')}, {Kind: api.AskPut, Queue: "work", Note: largest()},
		{Kind: api.AskDone, N: 2}, {Kind: api.AskDone, N: 5}, {Kind: api.AskBack, N: 5}, {Kind: api.AskPurge, Queue: "work"},
	} {
		size := len(do(with(0), a, 5).x.l.Bytes)
		if size == 0 {
			t.Errorf("%v writes nothing", a)
		}
		got := do(with(api.MaxLog-size), a, 5)
		if !sameSay(got.say, sayOK) || len(got.x.l.Bytes) != api.MaxLog || got.x.l.Sure != (api.MaxLog-size)/2 {
			t.Errorf("%v: %v is said, at a log of %d bytes", a, got.say, len(got.x.l.Bytes))
		}
		for _, less := range []int{1, size - 1, size, size + 1} {
			check(t, do(with(api.MaxLog-size+less), a, 5), refused(with(api.MaxLog-size+less), api.ErrFull))
		}
	}
}

// F2: what writes nothing needs no room; but a log that is too long already has none even for that.
func TestNothingToWrite(t *testing.T) {
	for _, a := range []api.Ask{{Kind: api.AskBack, N: 2}, {Kind: api.AskPurge, Queue: "b"}} {
		if got := do(with(api.MaxLog), a, 5); !sameSay(got.say, sayOK) || !sameLog(got.x.l, with(api.MaxLog).l) {
			t.Errorf("%v: %v is said", a, got.say)
		}
		check(t, do(with(api.MaxLog+1), a, 5), refused(with(api.MaxLog+1), api.ErrFull))
	}
}

// asks are some of each outcome.
func asks() []api.Ask {
	return append(right(), []api.Ask{
		{}, {Kind: api.AskMake, Queue: "new", N: 2}, {Kind: api.AskDrop, Queue: "work"}, {Kind: api.AskPut, Queue: "work", Note: letter('x')}, {Kind: api.AskPut, Queue: "b", Note: letter('x')},
		{Kind: api.AskTake, Queue: "work"}, {Kind: api.AskTake, Queue: "b"}, {Kind: api.AskWait, Queue: "work", N: 2}, {Kind: api.AskWait, Queue: "b", N: 2},
		{Kind: api.AskDone, N: 2}, {Kind: api.AskDone, N: 5}, {Kind: api.AskDone, N: 7}, {Kind: api.AskBack, N: 2}, {Kind: api.AskBack, N: 5}, {Kind: api.AskBack, N: 7}, {Kind: api.AskPurge, Queue: "work"},
	}...)
}

// Z2: what is handed in is only read, and what is answered shares no memory with it, nor its parts with each other.
func TestDoSharesNothing(t *testing.T) {
	for _, x := range []state{sample(), {}, with(api.MaxLog), but(func(x *state) { x.s.Tags = x.s.Tags[:0] })} {
		for _, a := range asks() {
			want := do(x, a, 5)

			given, ask := roomy(x), roomyAsk(a)
			got := do(given, ask, 5)
			check(t, got, want)
			checkOnlyRead(t, given, x)
			checkAskOnlyRead(t, ask, a)
			spoil(given)
			spoilNote(ask.Note)
			check(t, got, want)
			spoil(got.x)
			check(t, answer{want.x, got.say, got.err}, want)

			given, ask = roomy(x), roomyAsk(a)
			got = do(given, ask, 5)
			spoilNote(got.say.Note)
			checkState(t, got.x, want.x)
			spoil(got.x)
			checkOnlyRead(t, given, x)
			checkAskOnlyRead(t, ask, a)
		}
	}
}

// Z3: nil and a list without entries are the same.
func TestEmptyLists(t *testing.T) {
	empty := state{
		h: api.Hall{Queues: []api.Queue{}},
		l: api.Log{Bytes: []byte{}},
		s: api.Session{Tags: []api.Tag{}},
	}
	for _, a := range asks() {
		check(t, do(empty, a, 5), do(state{}, a, 5))
	}
}

// Whatever it is given, no call panics, and it answers the same again.
func TestWhateverIsGiven(t *testing.T) {
	odd := []state{
		{h: api.Hall{Next: -5, Queues: []api.Queue{{Name: "NO KEY", Limit: -1, Items: make([]api.Item, 40)}, {}, {}, {}, {Name: "work", Limit: 99, Items: []api.Item{{ID: -9, Note: api.Note{Body: make([]byte, 300)}}}}}}},
		{l: api.Log{Bytes: make([]byte, 9000), Sure: -3}},
		{l: api.Log{Sure: 77}, s: api.Session{Next: math.MaxInt, Tags: []api.Tag{{N: 2, Queue: "NO KEY"}, {N: -1, ID: math.MinInt, Turn: math.MaxInt}}}},
		but(func(x *state) { x.h.Next = math.MaxInt; x.s.Next = math.MinInt }),
	}
	for _, x := range odd {
		for _, a := range asks() {
			for _, now := range []int{math.MinInt, -1, 0, 1000000, math.MaxInt} {
				check(t, do(x, a, now), do(x, a, now))
			}
		}
		leave(x)
	}
}

// Z5: when an item was due that is not given means nothing.
func TestStrayFields(t *testing.T) {
	x := but(func(x *state) { x.h.Queues[work].Items[0].Due = 77 })
	check(t, do(x, api.Ask{Kind: api.AskTake, Queue: "work"}, 5), do(sample(), api.Ask{Kind: api.AskTake, Queue: "work"}, 5))
}

// Example 6 of the document: a queue is made, a note put, and taken: tag 1.
func TestExample(t *testing.T) {
	var x state
	for _, a := range []api.Ask{{Kind: api.AskMake, Queue: "q", N: 3}, {Kind: api.AskPut, Queue: "q", Note: letter('n')}} {
		got := do(x, a, 0)
		if !sameSay(got.say, sayOK) || got.err != api.OK {
			t.Errorf("%v: %v is said", a, got.say)
		}
		x = got.x
	}
	got := do(x, api.Ask{Kind: api.AskTake, Queue: "q"}, 0)
	if !sameSay(got.say, api.Say{Kind: api.SayItem, N: 1, Note: letter('n')}) || got.err != api.OK {
		t.Errorf("%v is said", got.say)
	}
	if !sameSession(got.x.s, api.Session{Next: 1, Tags: []api.Tag{{N: 1, Queue: "q", ID: 0, Turn: 1}}}) {
		t.Errorf("the session is %v", got.x.s)
	}
}
