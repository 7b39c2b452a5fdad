package session_test

import (
	"slices"
	"testing"

	"trivetgate/api"
)

// F2: Leave: tag by tag what was given comes back; whoever is late has nothing to say.
func TestLeave(t *testing.T) {
	checkState(t, leave(sample()), but(func(x *state) {
		x.h.Queues[work].Items[1] = api.Item{ID: 3, Turn: 1, Tries: 1, Note: letter('b')}
		x.drop(work, 2)
		x.lay(dead, letter('c'))
		x.write(t, goneOf("work", 6), putOf("dead", 10, letter('c')))
	}))
	for _, x := range []state{{}, {h: sample().h}, {l: sample().l}, {s: sample().s}} {
		checkState(t, leave(x), x)
	}
}

// F2: Leave, of tags that come back in their turn: of two that go, dead has room for the first one.
func TestLeaveInTurn(t *testing.T) {
	both := func(x *state) {
		x.h.Queues[work].Items[1].Tries = 2
		x.s.Tags = x.s.Tags[:2]
	}
	checkState(t, leave(but(both)), but(func(x *state) {
		both(x)
		x.h.Queues[work].Items = append(x.h.Queues[work].Items[:1], x.h.Queues[work].Items[3])
		x.lay(dead, letter('b'))
		x.write(t, goneOf("work", 3), putOf("dead", 10, letter('b')), goneOf("work", 6))
	}))
	turned := func(x *state) {
		both(x)
		x.s.Tags[0], x.s.Tags[1] = x.s.Tags[1], x.s.Tags[0]
	}
	checkState(t, leave(but(turned)), but(func(x *state) {
		turned(x)
		x.h.Queues[work].Items = append(x.h.Queues[work].Items[:1], x.h.Queues[work].Items[3])
		x.lay(dead, letter('c'))
		x.write(t, goneOf("work", 6), putOf("dead", 10, letter('c')), goneOf("work", 3))
	}))
}

// F2: Leave: a tag of which one part has an error is left, and those behind it are not.
func TestLeaveGoesOn(t *testing.T) {
	turn := func(x *state) {
		x.s.Tags = []api.Tag{x.s.Tags[2], {N: 1, Queue: "new", ID: 3, Turn: 1}, x.s.Tags[1], {N: 8, Queue: "dead", ID: 4, Turn: 2}, x.s.Tags[0]}
	}
	full := func(size int) state {
		x := with(size)
		turn(&x)
		return x
	}
	backOf3 := func(x *state) { x.h.Queues[work].Items[1] = api.Item{ID: 3, Turn: 1, Tries: 1, Note: letter('b')} }

	for _, size := range []int{api.MaxLog, api.MaxLog - len(do(with(0), api.Ask{Kind: api.AskDone, N: 2}, 5).x.l.Bytes) + 1} {
		want := full(size)
		backOf3(&want)
		checkState(t, leave(full(size)), want)
	}

	// Room for one entry: item 4 goes, of which one tells, and 6 does not, of which two would.
	want := full(api.MaxLog - 14)
	backOf3(&want)
	want.drop(dead, 0)
	want.write(t, goneOf("dead", 4))
	if len(want.l.Bytes) != api.MaxLog {
		t.Fatalf("the log has %d bytes", len(want.l.Bytes))
	}
	checkState(t, leave(full(api.MaxLog-14)), want)

	checkState(t, leave(full(api.MaxLog+1)), full(api.MaxLog+1))
}

// F2: Leave, of more tags than a session may have.
func TestLeaveOfManyTags(t *testing.T) {
	x := but(func(x *state) {
		x.s.Tags = append(slices.Repeat(x.s.Tags, 4), api.Tag{N: 1, Queue: "b", ID: 7, Turn: 3})
	})
	want := leave(sample())
	want.h.Queues[b].Items[0] = api.Item{ID: 7, Turn: 3, Tries: 2, Note: letter('f')}
	want.s = x.s
	checkState(t, leave(x), want)
}

// Z2: what is handed in is only read, and what is answered shares no memory with it.
func TestLeaveSharesNothing(t *testing.T) {
	for _, x := range []state{sample(), with(api.MaxLog), {}, but(func(x *state) { x.s.Tags = nil })} {
		want := leave(x)
		given := roomy(x)
		got := leave(given)
		checkState(t, got, want)
		checkOnlyRead(t, given, x)
		got.s = api.Session{}
		spoil(got)
		checkOnlyRead(t, given, x)

		got = leave(given)
		spoil(given)
		got.s = x.s
		checkState(t, got, want)
	}
}
