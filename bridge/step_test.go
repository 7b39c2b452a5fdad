package bridge_test

import (
	"math"
	"strings"
	"testing"

	"trivetgate/api"
	"trivetgate/bridge"
	"trivetgate/gate"
	"trivetgate/hall"
	"trivetgate/journal"
)

// K2: StepOpen: somebody is there, last, of a tongue that there is, up to MaxConns.
func TestOpen(t *testing.T) {
	var b api.Bridge
	var want []api.Conn
	for _, n := range []int{3, 1, 2, 2} {
		for _, none := range []int{0, -1, 4, 255, 257, 1<<32 + 1, math.MaxInt, math.MinInt} {
			refused(t, b, open(none), api.ErrKind)
		}
		b = run(t, b, open(n))
		want = append(want, api.Conn{Tongue: n, Until: -1})
		check(t, b, api.Bridge{Conns: want})
	}
	refused(t, b, open(1), api.ErrMany)
	refused(t, b, open(4), api.ErrKind)
	// Who is shut is there still.
	b = run(t, b, shut(0), shut(1), shut(2), shut(3))
	refused(t, b, open(1), api.ErrMany)
	check(t, len(run(t, b, crash(0), open(1)).Conns), 1)
}

// nobody are numbers that nobody has when two are there.
var nobody = []int{-1, 2, 3, 1 << 32, math.MaxInt, math.MinInt}

// K2: StepIn: ErrNone, ErrShut, ErrFull, in that order.
func TestInIsRefused(t *testing.T) {
	b := run(t, with(t, 2, 2), shut(1), in(0, "x"))
	for _, data := range []string{"", "ping\n", strings.Repeat("x", 801)} {
		for _, n := range nobody {
			refused(t, b, in(n, data), api.ErrNone)
		}
		refused(t, b, in(1, data), api.ErrShut)
	}
	refused(t, b, in(0, strings.Repeat("x", 800)), api.ErrFull)
	refused(t, api.Bridge{}, in(0, ""), api.ErrNone)
}

// K2: StepIn: Data is behind In, which has up to 2 times MaxIn bytes; those of asks that wait are none of them.
func TestInUpToTwiceMaxIn(t *testing.T) {
	b := run(t, with(t, 2, 2), in(0, "make q 1\nwait q 9\n"+pings(8)+strings.Repeat("\x00", 500)))
	was := pings(1) + strings.Repeat("\x00", 500)
	check(t, string(b.Conns[0].In), was)
	left := 800 - len(was)
	for _, n := range []int{left + 1, left + 2, 800, 100000} {
		refused(t, b, in(0, strings.Repeat("y", n)), api.ErrFull)
	}
	for _, n := range []int{0, 1, left - 1, left} {
		more := strings.Repeat("y", n)
		check(t, string(run(t, b, in(0, more)).Conns[0].In), was+more)
	}
	b = run(t, b, in(0, strings.Repeat("y", left)))
	check(t, run(t, b, in(0, "")), b)
	refused(t, b, in(0, "y"), api.ErrFull)

	// It is held against what is there ahead of it: that it would be read at once does not help.
	refused(t, b, in(1, pings(161)), api.ErrFull)
	check(t, len(run(t, b, in(1, pings(160))).Conns[1].In), 5*132)
}

// K2: StepClose: ErrNone likewise; who is shut stays so.
func TestClose(t *testing.T) {
	b := run(t, with(t, 2, 2), in(0, "make q 1\nput q #61\ntake q\n"))
	for _, n := range nobody {
		refused(t, b, shut(n), api.ErrNone)
	}
	refused(t, api.Bridge{}, shut(0), api.ErrNone)
	want := bridge.Own(b)
	want.Conns[0] = api.Conn{Tongue: 2, Until: -1, Held: oks(2, sayItem(1, 0, "a")), Shut: true}
	want.Hall.Queues = []api.Queue{{Name: "q", Limit: 1, Items: []api.Item{{Turn: 1, Tries: 1, Note: api.Note{Body: []byte("a")}}}}}
	b = run(t, b, shut(0))
	check(t, b, want)
	check(t, run(t, b, shut(0)), want)
}

// K2: StepTick: Now is one more, and what is late comes back; who speaks of it then is too late.
func TestTick(t *testing.T) {
	b := run(t, with(t, 2), in(0, "make q 1\nput q #61\ntake q\n"))
	for now := range 8 {
		check(t, b.Now, now)
		i := b.Hall.Queues[0].Items[0]
		check(t, i.Out, now < 5)
		check(t, i.Tries, now/5)
		b = run(t, b, tick)
	}
	check(t, run(t, b, in(0, "done 1\n")).Conns[0].Held, oks(2, sayItem(1, 0, "a"), sayErr(api.ErrNone)))
}

// twiceBack answers a bridge of two: one has both items of q until tick 5, of which the first came back twice already. In the log there is room for so many bytes.
func twiceBack(t *testing.T, ahead string, room int) api.Bridge {
	t.Helper()
	b := run(t, with(t, 2, 2), in(0, ahead+"make q 3\nput q #61\nput q #62\ntake q\nback 1\ntake q\nback 2\ntake q\ntake q\n"), sync)
	b = run(t, fill(t, b, 1, room), in(1, "wait q 6\n"), tick, tick, tick, tick)
	check(t, b.Conns[0].Session.Tags, []api.Tag{{N: 3, Queue: "q", Turn: 3}, {N: 4, Queue: "q", ID: 1, Turn: 1}})
	return b
}

// going is how an item goes that came back too often: what is there for it, and how many bytes tell of it.
type going struct {
	ahead string
	bytes int
}

var goings = []going{{"", 11}, {"make dead 1\n", 28}}

// told is what tells that the first item goes, when that is put aside with the next number.
func (g going) told(next int) []api.Entry {
	gone := api.Entry{Kind: api.EnGone, Queue: "q"}
	if g.ahead == "" {
		return []api.Entry{gone}
	}
	return []api.Entry{gone, {Kind: api.EnPut, Queue: "dead", ID: next, Note: api.Note{Body: []byte("a")}}}
}

func queueOf(b api.Bridge, name string) string {
	return bodies(b.Hall.Queues[hall.Find(b.Hall, name)])
}

// K2: StepTick: what goes for good is told in the log, up to its last byte.
func TestTickWrites(t *testing.T) {
	for _, g := range goings {
		b := twiceBack(t, g.ahead, g.bytes)
		l, err := journal.Write(b.Log, g.told(b.Hall.Next))
		check(t, err, api.OK)
		check(t, len(l.Bytes), api.MaxLog)
		b = run(t, b, tick)
		check(t, b.Log, l)
		check(t, b.Now, 5)
		check(t, queueOf(b, "q"), "b")
		check(t, b.Conns[1].Held, []api.Say{sayItem(1, 1, "b")})
		if g.ahead != "" {
			check(t, queueOf(b, "dead"), "a")
		}
	}
}

// K2: StepTick: where the log has no room nothing comes back, but time goes on; no error is told.
func TestTickWithoutRoom(t *testing.T) {
	for _, g := range goings {
		b := twiceBack(t, g.ahead, g.bytes-1)
		want := bridge.Own(b)
		b, want.Now = run(t, b, tick), 5
		check(t, b, want)
		b, want.Now = run(t, b, tick), 6
		want.Conns[1] = b.Conns[1]
		check(t, b, want)
		check(t, b.Conns[1].Held, []api.Say{sayNone})
		check(t, queueOf(run(t, b, sync, short, tick), "q"), "b")
	}
}

// K2: StepSync: all is sure, and of each all that is held goes out behind what does already, in their tongue.
func TestSync(t *testing.T) {
	b := run(t, with(t, 1, 2, 3, 2), in(1, "make q 3\nput q #61\n"), sync, in(3, "take q\nzap\n"))
	for n := api.TongueFrames; n <= api.TongueWeb; n++ {
		for _, a := range []api.Ask{{Kind: api.AskTake, Queue: "q"}, {Kind: api.AskPing}, {Kind: api.AskPut, Queue: "q"}, {Kind: api.AskDrop, Queue: "x"}} {
			ask, err := gate.AskBytes(n, a)
			check(t, err, api.OK)
			b = run(t, b, in(n-1, string(ask)))
		}
	}
	was := bridge.Own(b)
	b = run(t, b, sync)
	check(t, b.Log, api.Log{Bytes: was.Log.Bytes, Sure: len(was.Log.Bytes)})
	check(t, b.Hall, was.Hall)
	for k, c := range was.Conns {
		for _, say := range c.Held {
			said, err := gate.SayBytes(c.Tongue, say)
			check(t, err, api.OK)
			c.Out = append(c.Out, said...)
		}
		if len(c.Held) < 2 {
			t.Errorf("of %d only %v is held", k, c.Held)
		}
		c.Held = nil
		check(t, b.Conns[k], c)
	}
	check(t, string(b.Conns[3].Out), "+item 1 0 #61\n-1\n")
	check(t, run(t, b, sync), b)
}

// K2: StepSync: what is done behind it is not safe yet.
func TestSyncAheadOfAsks(t *testing.T) {
	b := run(t, with(t, 2), in(0, pings(20)+"make q 1\n"), sync)
	check(t, b.Conns[0].Held, oks(1))
	check(t, len(b.Log.Bytes), 8)
	check(t, b.Log.Sure, 0)
	check(t, run(t, b, sync).Log.Sure, 8)
}

// K2: StepCrash: of what is not safe so many bytes are there still; the hall comes back from them, and nobody is there.
func TestCrash(t *testing.T) {
	b := run(t, with(t, 2, 2), in(0, "make q 3\nput q #61\ntake q\nback 1\n"), tick, sync)
	safe := b.Hall
	b = run(t, b, in(0, "take q\nput q #62\nput q #6363\n"), in(1, "put q #64\nwait q 9\n"))
	both := hall.Plain(b.Hall)
	both.Next, both.Queues[0].Items = 2, both.Queues[0].Items[:2]
	for keep := -2; keep < 40; keep++ {
		x := run(t, b, crash(keep))
		// Behind what is safe: 14 bytes of #62, and 15 of #6363.
		want := api.Bridge{Hall: hall.Plain(safe), Now: 1, Log: b.Log}
		whole := 0
		switch {
		case keep >= 29:
			whole, want.Hall = 29, hall.Plain(b.Hall)
		case keep >= 14:
			whole, want.Hall = 14, both
		}
		want.Log.Bytes = b.Log.Bytes[:b.Log.Sure+whole]
		want.Log.Sure += whole
		check(t, x, want)
	}
	check(t, run(t, b, crash(math.MinInt)), run(t, b, crash(0)))
	check(t, run(t, b, crash(math.MaxInt)), run(t, b, crash(29)))
	check(t, run(t, api.Bridge{}, crash(5)), api.Bridge{})
}

// K2: StepShort: ErrMore, if not all is sure; else the journal is anew, and nothing else.
func TestShort(t *testing.T) {
	b := run(t, with(t, 2, 2), in(0, "make q 3\nput q #61\nput q #62\nput q #63\ntake q\ntake q\ndone 1\nping\n"), tick, in(1, "make e 1\nwait e 9\n"))
	refused(t, b, short, api.ErrMore)
	b = run(t, b, sync)
	l, err := journal.Write(api.Log{}, journal.Short(b.Hall))
	check(t, err, api.OK)
	want := bridge.Own(b)
	want.Log = api.Log{Bytes: l.Bytes, Sure: len(l.Bytes)}
	x := run(t, b, short)
	check(t, x, want)
	check(t, run(t, x, crash(0)).Hall, hall.Plain(b.Hall))
	check(t, run(t, x, short), x)

	// What is held does not hinder it, if all is sure.
	x = run(t, b, in(1, "ping\n"), in(0, "take q\n"), short)
	check(t, x.Conns[0].Held, []api.Say{sayItem(3, 0, "c")})
	refused(t, run(t, x, in(0, "put q #64\n")), short, api.ErrMore)

	check(t, run(t, api.Bridge{}, short), api.Bridge{})
}

// K2: StepShort: at an error of Write nothing is done. What Do makes has room always, so that this one is made by hand.
func TestShortWithoutRoom(t *testing.T) {
	b := with(t, 2)
	for range 800 {
		b.Hall.Queues = append(b.Hall.Queues, api.Queue{Name: "q", Limit: 1})
	}
	refused(t, b, short, api.ErrFull)
	b.Log = api.Log{Bytes: []byte("x")}
	refused(t, b, short, api.ErrMore)
}

// K2: ErrKind, if there is no such kind, whatever else the step has.
func TestKinds(t *testing.T) {
	b := run(t, with(t, 2), in(0, "make q 3\nping\n"))
	for _, kind := range []int{0, -1, 8, 9, 257, 1<<32 + 1, math.MaxInt, math.MinInt} {
		for _, x := range []api.Bridge{b, {}} {
			refused(t, x, api.Step{Kind: kind}, api.ErrKind)
			refused(t, x, api.Step{Kind: kind, N: 1, Data: []byte("ping\n")}, api.ErrKind)
		}
	}
}

// Z5: fields that a kind has not mean nothing.
func TestOtherFields(t *testing.T) {
	b := run(t, with(t, 2), in(0, "make q 3\nping\n"), sync)
	for _, s := range []api.Step{open(1), shut(0), tick, sync, crash(0), short} {
		more := s
		more.Data = []byte(strings.Repeat("ping\n", 200))
		if s.Kind >= api.StepTick && s.Kind != api.StepCrash {
			more.N = 77
		}
		check(t, run(t, b, more), run(t, b, s))
	}
}

// steps are some of each kind, of which the sample has some done and some refused.
func steps() []api.Step {
	return []api.Step{
		open(1), open(9), in(0, "e q\nping\n"), in(1, "zap\n"), in(2, "\x00"), in(3, "x"), in(9, "x"), in(0, strings.Repeat("x", 900)),
		in(1, "put e #7a\n"), shut(0), shut(3), shut(9), tick, sync, crash(0), crash(30), crash(math.MaxInt), short, {},
	}
}

// sample is a bridge with something in each of its lists: who waits, who has what has come, what is held, and what goes out.
func sample(t *testing.T) api.Bridge {
	t.Helper()
	b := run(t, with(t, 2, 2, 1), in(0, "make q 8\nmake e 1\nput q k=$3d23 #6869\nput q #\nput q n=5 a=!1 #6a\n"), sync)
	b = run(t, b, tick, in(0, "take q\nput q k=-1 #6b\nwait e 5\nput q z=5 #7a7a\ntak"), in(1, "take q\ntake q\n"), in(2, "\x00\x24\x04"))
	return run(t, b, open(3), shut(3))
}

// Own: a copy.
func TestOwn(t *testing.T) {
	for _, b := range []api.Bridge{sample(t), {}, with(t, 1), run(t, sample(t), sync), run(t, sample(t), crash(3))} {
		check(t, bridge.Own(b), b)
		given := roomy(b)
		was := whole(given)
		got := bridge.Own(given)
		check(t, got, b)
		checkApart(t, given, got)
		check(t, whole(given), was)
	}
}

// Z2: what is handed in is only read, and what is answered shares no memory with it, nor with anything else that is answered.
func TestSharesNothing(t *testing.T) {
	for _, b := range []api.Bridge{sample(t), run(t, sample(t), sync), {}} {
		for _, s := range steps() {
			want, told := bridge.Do(b, s)
			given, step := roomy(b), roomy(s)
			was, wasStep := whole(given), whole(step)
			got, err := bridge.Do(given, step)
			check(t, got, want)
			check(t, err, told)
			checkApart(t, given, step, got)
			check(t, whole(given)+whole(step), was+wasStep)
		}
	}
}

// Z3: nil and a list without entries are the same.
func TestEmptyIsNil(t *testing.T) {
	empty := api.Bridge{
		Hall: api.Hall{Queues: []api.Queue{}}, Log: api.Log{Bytes: []byte{}},
		Conns: []api.Conn{{Tongue: 2, In: []byte{}, Asks: []api.Ask{}, Until: -1, Held: []api.Say{}, Out: []byte{}, Session: api.Session{Tags: []api.Tag{}}}},
	}
	none := with(t, 2)
	for _, s := range append(steps(), api.Step{Kind: api.StepIn, Data: []byte{}}, api.Step{Kind: api.StepIn}) {
		want, told := bridge.Do(none, s)
		got, err := bridge.Do(empty, s)
		check(t, got, want)
		check(t, err, told)
	}
	check(t, bridge.Own(empty), none)
}
