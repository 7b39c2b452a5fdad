package bridge_test

import (
	"strings"
	"testing"

	"trivetgate/api"
	"trivetgate/gate"
)

// The document's eleventh example.
func TestMakeAndPing(t *testing.T) {
	b := run(t, with(t, api.TongueLines), in(0, "make a 2\nping\n"))
	made := "\x00\x04\x01\x01a\x02"
	want := api.Bridge{
		Hall:  api.Hall{Queues: []api.Queue{{Name: "a", Limit: 2}}},
		Log:   api.Log{Bytes: b.Log.Bytes},
		Conns: []api.Conn{{Tongue: api.TongueLines, Until: -1, Held: oks(2)}},
	}
	check(t, b, want)
	if len(b.Log.Bytes) != 8 || string(b.Log.Bytes[:6]) != made {
		t.Errorf("the log is %q", b.Log.Bytes)
	}
	want.Log.Sure = 8
	want.Conns[0].Held, want.Conns[0].Out = nil, []byte("+ok\n+ok\n")
	check(t, run(t, b, sync), want)
}

// K1: MaxHeld are held, MaxAsks wait, and In is what is left.
func TestLimits(t *testing.T) {
	b := with(t, api.TongueLines)
	for n := range 161 {
		held := min(n, 20)
		asks := min(n-held, 8)
		left := n - held - asks
		more := strings.Repeat("p", min(n, 800-5*n))
		want := b
		want.Conns = []api.Conn{{
			Tongue: api.TongueLines, In: []byte(pings(left) + more), Until: -1, Held: oks(held),
		}}
		for range asks {
			want.Conns[0].Asks = append(want.Conns[0].Asks, api.Ask{Kind: api.AskPing})
		}
		check(t, run(t, b, in(0, pings(n)+more)), want)
	}
}

// K1: what could not be done for want of room is done behind a StepSync, in the same turn.
func TestGoesOnBehindSync(t *testing.T) {
	b := run(t, with(t, api.TongueLines), in(0, pings(45)+"pin"))
	for _, want := range []struct {
		left, asks, held, out int
	}{{17, 8, 20, 0}, {0, 5, 20, 20}, {0, 0, 5, 40}, {0, 0, 0, 45}, {0, 0, 0, 45}} {
		c := b.Conns[0]
		if string(c.In) != pings(want.left)+"pin" || len(c.Asks) != want.asks || string(c.Out) != strings.Repeat("+ok\n", want.out) {
			t.Errorf("%q has come, %d wait, and %q goes out", c.In, len(c.Asks), c.Out)
		}
		check(t, c.Held, oks(want.held))
		b = run(t, b, sync)
	}
}

// K1: an error is told behind all that was asked ahead of it, as soon as there is room for it, and whoever wrote it leaves.
func TestErrorInItsTurn(t *testing.T) {
	gone := api.Conn{Tongue: api.TongueLines, Until: -1, Shut: true}
	bad := sayErr(api.ErrKind)
	for n := range 45 {
		b := run(t, with(t, api.TongueLines), in(0, pings(n)+"zap\nping\n"))
		told := 0
		for told+20 <= n {
			c := b.Conns[0]
			if c.Shut || !strings.HasSuffix(string(c.In), "zap\nping\n") || len(c.Asks) != min(8, n-told-20) {
				t.Errorf("%d asks ahead: %+v", n, c)
			}
			check(t, c.Held, oks(20))
			b = run(t, b, sync)
			told += 20
		}
		want := gone
		want.Held, want.Out = oks(n-told, bad), []byte(strings.Repeat("+ok\n", told))
		check(t, b.Conns[0], want)
		want.Held, want.Out = nil, []byte(strings.Repeat("+ok\n", n)+"-1\n")
		check(t, run(t, b, sync).Conns[0], want)
	}
}

// K1: an error waits behind an ask that waits.
func TestErrorBehindWait(t *testing.T) {
	b := run(t, with(t, api.TongueLines), in(0, "make q 1\nwait q 2\nzap\nping\n"))
	waiting := api.Conn{
		Tongue: api.TongueLines, In: []byte("zap\nping\n"), Asks: []api.Ask{askWait("q", 2)}, Until: 2, Held: oks(1),
	}
	for range 2 {
		check(t, b.Conns[0], waiting)
		b = run(t, b, tick)
	}
	check(t, b.Conns[0], api.Conn{Tongue: api.TongueLines, Until: -1, Held: oks(1, sayNone, sayErr(api.ErrKind)), Shut: true})
}

// K1: in each tongue, its own errors.
func TestErrorOfEachTongue(t *testing.T) {
	for _, x := range []struct {
		tongue int
		data   string
		want   api.Errno
	}{
		{api.TongueFrames, "\x00\x00", api.ErrForm},
		{api.TongueFrames, "\x00\x06\x0a\x00\x00\x00\x00\x00", api.ErrKind},
		{api.TongueLines, "take Q\n", api.ErrName},
		{api.TongueLines, strings.Repeat("x", 400), api.ErrMuch},
		{api.TongueWeb, "x\r\n\r\n", api.ErrForm},
		{api.TongueWeb, "POST /tag/0 HTTP/1.1\r\ncontent-length: 0\r\n\r\n", api.ErrRange},
	} {
		b := run(t, with(t, x.tongue), in(0, x.data))
		check(t, b.Conns[0], api.Conn{Tongue: x.tongue, Until: -1, Held: []api.Say{sayErr(x.want)}, Shut: true})
		b = run(t, with(t, x.tongue), in(0, x.data[:len(x.data)-1]))
		check(t, b.Conns[0], api.Conn{Tongue: x.tongue, Until: -1, In: []byte(x.data[:len(x.data)-1])})
	}
}

// K1: to leave: what they were given comes back, and whoever waits for it has it at once, wherever they stand.
func TestLeaveGivesBack(t *testing.T) {
	const first, last = 0, 2
	for _, goes := range []api.Step{in(1, "zap\n"), shut(1)} {
		for _, waits := range []int{first, last} {
			b := run(t, with(t, 2, 2, 2), in(1, "make q 2\nput q #61\ntake q\ntak"), in(waits, "wait q 9\n"), goes)
			left := b.Conns[1]
			check(t, left.Session, api.Session{})
			if len(left.In) > 0 || len(left.Asks) > 0 || left.Until != -1 || !left.Shut {
				t.Errorf("who left is %+v", left)
			}
			check(t, b.Conns[waits], api.Conn{
				Tongue: 2, Until: -1, Held: []api.Say{sayItem(1, 1, "a")},
				Session: api.Session{Tags: []api.Tag{{N: 1, Queue: "q", Turn: 2}}, Next: 1},
			})
		}
	}
}

// K1: to leave: what waits is forgotten, what is held goes out still, and nobody speaks for who left.
func TestLeaveForgets(t *testing.T) {
	b := run(t, with(t, 2, 2), in(0, "make q 2\nping\n"), sync, in(0, "ping\nwait q 1\nput q #61\npin"), shut(0), tick, tick)
	want := api.Conn{Tongue: 2, Until: -1, Held: oks(1), Out: []byte("+ok\n+ok\n"), Shut: true}
	check(t, b.Conns[0], want)
	check(t, b.Hall, api.Hall{Queues: []api.Queue{{Name: "q", Limit: 2}}})
	want.Held, want.Out = nil, []byte("+ok\n+ok\n+ok\n")
	check(t, run(t, b, sync).Conns[0], want)
}

// K1: in turn, one ask each, again and again: here of three who all wait for room.
func TestInTurn(t *testing.T) {
	b := run(t, with(t, 2, 2, 2), in(1, "make q 8\n"), sync)
	for n, asks := range []string{"put q #61\nput q #62\nput q #63\n", "put q #64\n", "put q #65\nput q #66\n"} {
		b = run(t, b, in(n, pings(20)+asks))
	}
	check(t, bodies(b.Hall.Queues[0]), "")
	b = run(t, b, sync)
	check(t, bodies(b.Hall.Queues[0]), "a d e b f c")
}

// K1: in turn, who comes first is served first, however long the other one waited.
func TestWhoWaitsInTurn(t *testing.T) {
	b := run(t, with(t, 2, 2, 2), in(2, "make q 8\n"), in(1, "wait q 9\n"), tick, in(0, "wait q 3\nwait q 9\n"))
	b = run(t, b, in(2, "put q #61\n"))
	check(t, b.Conns[0].Held, []api.Say{sayItem(1, 0, "a")})
	check(t, b.Conns[0].Until, 10)
	check(t, b.Conns[1].Until, 9)
	// What the last one puts the others have in the next round, whoever is ahead first.
	b = run(t, b, in(2, "put q #62\nput q #63\n"))
	check(t, b.Conns[0].Held, []api.Say{sayItem(1, 0, "a"), sayItem(2, 0, "b")})
	check(t, b.Conns[1].Held, []api.Say{sayItem(1, 0, "c")})
}

// K1: Until is set when an ask is the first that waits, not when it came; each ask has one of its own.
func TestUntil(t *testing.T) {
	b := run(t, with(t, 2), tick, in(0, "make q 1\nwait q 2\nwait q 1\nwait q 3\nping\n"))
	held := oks(1)
	for _, want := range []struct {
		until int
		more  []api.Say
	}{{3, nil}, {3, nil}, {4, []api.Say{sayNone}}, {7, []api.Say{sayNone}}, {7, nil}, {7, nil}, {-1, oks(0, sayNone, sayOK)}, {-1, nil}} {
		held = append(held, want.more...)
		check(t, b.Conns[0].Until, want.until)
		check(t, b.Conns[0].Held, held)
		b = run(t, b, tick)
	}
}

// K1: Until is not set as long as there is no room for an answer.
func TestUntilBehindRoom(t *testing.T) {
	b := run(t, with(t, 2, 2), in(1, "make q 1\n"), in(0, pings(20)+"wait q 1\n"), tick, tick)
	check(t, b.Conns[0].Until, -1)
	check(t, b.Conns[0].Asks, []api.Ask{askWait("q", 1)})
	b = run(t, b, sync)
	check(t, b.Conns[0].Until, 3)
	check(t, b.Conns[0].Held, nil)
	check(t, run(t, b, tick).Conns[0].Held, []api.Say{sayNone})
}

// K1: at Until itself what came back at that tick is given; else there was none.
func TestAtUntil(t *testing.T) {
	b := run(t, with(t, 2, 2, 2), in(1, "make q 1\nput q #61\ntake q\n"), in(0, "wait q 5\n"), in(2, "wait q 5\n"))
	b = run(t, b, tick, tick, tick, tick)
	check(t, b.Conns[0].Held, nil)
	b = run(t, b, tick)
	check(t, b.Conns[0].Held, []api.Say{sayItem(1, 1, "a")})
	check(t, b.Conns[2].Held, []api.Say{sayNone})
	check(t, b.Hall.Queues[0].Items[0].Due, 10)
}

// K1: an ask that waits has other answers too.
func TestWaitEndsOtherwise(t *testing.T) {
	b := run(t, with(t, 2, 2), in(0, "make q 1\nwait q 5\nping\n"), in(1, "drop q\n"))
	check(t, b.Conns[0], api.Conn{Tongue: 2, Until: -1, Held: oks(1, sayErr(api.ErrNone), sayOK)})

	b = run(t, with(t, 2), in(0, "make q 8\n"+strings.Repeat("put q #61\ntake q\n", 4)), sync, in(0, "wait q 5\nping\n"))
	check(t, b.Conns[0].Held, []api.Say{sayErr(api.ErrMany), sayOK})
	check(t, b.Conns[0].Until, -1)
}

// K1: who is asked has their own tags; what is wrong with an ask that may be read is said, and nobody leaves for it.
func TestRefusedStay(t *testing.T) {
	b := run(t, with(t, 2, 2), in(0, "make q 1\nput q #61\ntake q\n"), in(1, "done 1\ntake e\nmake q 1\nput q #62\ntake q\n"))
	check(t, b.Conns[1].Held, []api.Say{sayErr(api.ErrNone), sayErr(api.ErrNone), sayErr(api.ErrName), sayErr(api.ErrFull), sayNone})
	check(t, b.Conns[1].Shut, false)
	check(t, run(t, b, in(0, "done 1\n")).Conns[0].Held, oks(2, sayItem(1, 0, "a"), sayOK))
}

// K1: however it is cut, however it comes: it is the same, in all tongues.
func TestPieces(t *testing.T) {
	asks := []api.Ask{
		{Kind: api.AskMake, Queue: "q", N: 3}, {Kind: api.AskPut, Queue: "q", Note: letter()},
		{Kind: api.AskTake, Queue: "q"}, {Kind: api.AskPing}, {Kind: api.AskBack, N: 1}, askWait("q", 4),
		{Kind: api.AskDone, N: 2}, askWait("q", 4), {Kind: api.AskDrop, Queue: "q"},
	}
	for tongue := api.TongueFrames; tongue <= api.TongueWeb; tongue++ {
		all := ""
		for _, a := range asks {
			b, err := gate.AskBytes(tongue, a)
			check(t, err, api.OK)
			all += string(b)
		}
		want := run(t, with(t, tongue), in(0, all))
		check(t, len(want.Conns[0].Held), 7)
		for size := 1; size <= len(all); size++ {
			b := with(t, tongue)
			for at := 0; at < len(all); at += size {
				b = run(t, b, in(0, all[at:min(at+size, len(all))]))
			}
			check(t, b, want)
		}
	}
}
