package bridge_test

import (
	"bytes"
	"testing"

	"trivetgate/api"
	"trivetgate/bridge"
	"trivetgate/gate"
	"trivetgate/hall"
	"trivetgate/journal"
	"trivetgate/session"
	"trivetgate/store"
)

// guest is somebody, of whom all is kept that ever came, and all that was ever said: what waits, what is held and what goes out are only places in these.
type guest struct {
	tongue   int
	came     []byte
	answered int
	until    int
	said     []api.Say
	out      int
	session  api.Session
	shut     bool
}

// conn is what a bridge has of g.
func (g *guest) conn(t *testing.T) api.Conn {
	c := api.Conn{Tongue: g.tongue, Until: -1, Held: g.said[g.out:], Session: g.session, Shut: g.shut}
	for _, say := range g.said[:g.out] {
		b, err := gate.SayBytes(g.tongue, say)
		check(t, err, api.OK)
		c.Out = append(c.Out, b...)
	}
	if g.shut {
		return c
	}
	asks, left, _ := gate.Asks(g.tongue, g.came, g.answered+8)
	c.Asks, c.In = asks[g.answered:], left
	if g.until > 0 {
		c.Until = g.until
	}
	return c
}

// model is a bridge of guests; safe is the hall as it was when all of it was safe.
type model struct {
	hall, safe api.Hall
	log        api.Log
	guests     []*guest
	now        int
}

func (m *model) bridge(t *testing.T) api.Bridge {
	b := api.Bridge{Hall: m.hall, Log: m.log, Now: m.now}
	for _, g := range m.guests {
		b.Conns = append(b.Conns, g.conn(t))
	}
	return b
}

func (m *model) leave(g *guest) {
	m.hall, m.log = session.Leave(m.hall, m.log, g.session)
	g.session, g.shut = api.Session{}, true
}

// turn tells whether g had something said.
func (m *model) turn(g *guest) bool {
	if g.shut || len(g.said) >= g.out+20 {
		return false
	}
	asks, _, wrong := gate.Asks(g.tongue, g.came, g.answered+1)
	if len(asks) > g.answered {
		return m.ask(g, asks[g.answered])
	}
	if wrong == api.OK {
		return false
	}
	g.said = append(g.said, sayErr(wrong))
	m.leave(g)
	return true
}

func (m *model) ask(g *guest, a api.Ask) bool {
	h, l, s, say, err := session.Do(m.hall, m.log, g.session, a, m.now)
	if err != api.OK {
		if g.until == 0 {
			g.until = m.now + a.N
		}
		if g.until > m.now {
			return false
		}
		say = sayNone
	}
	m.hall, m.log, g.session = h, l, s
	g.said = append(g.said, say)
	g.answered++
	g.until = 0
	return true
}

// settle goes from one to the next, until as many turns as there are guests had nothing in them.
func (m *model) settle() {
	idle := 0
	for k := 0; idle < len(m.guests); k++ {
		idle++
		if m.turn(m.guests[k%len(m.guests)]) {
			idle = 0
		}
	}
}

// do does a step, and tells what was refused of it.
func (m *model) do(s api.Step, left int) api.Errno {
	isIn := s.Kind == 2 || s.Kind == 3
	if isIn && (s.N < 0 || s.N >= len(m.guests)) {
		return api.ErrNone
	}
	switch {
	case s.Kind == 1 && (s.N < 1 || s.N > 3) || s.Kind < 1 || s.Kind > 7:
		return api.ErrKind
	case s.Kind == 1 && len(m.guests) == 4:
		return api.ErrMany
	case s.Kind == 2 && m.guests[s.N].shut:
		return api.ErrShut
	case s.Kind == 2 && left+len(s.Data) > 800:
		return api.ErrFull
	case s.Kind == 7 && m.log.Sure != len(m.log.Bytes):
		return api.ErrMore
	}
	m.change(s)
	m.settle()
	return api.OK
}

func (m *model) change(s api.Step) {
	switch s.Kind {
	case 1:
		m.guests = append(m.guests, &guest{tongue: s.N})
	case 2:
		m.guests[s.N].came = append(m.guests[s.N].came, s.Data...)
	case 3:
		if !m.guests[s.N].shut {
			m.leave(m.guests[s.N])
		}
	case 4:
		m.now++
		h, told := hall.Tick(m.hall, m.now)
		if l, err := journal.Write(m.log, told); err == api.OK {
			m.hall, m.log = h, l
		}
	case 5:
		m.log.Sure, m.safe = len(m.log.Bytes), m.hall
		for _, g := range m.guests {
			g.out = len(g.said)
		}
	case 6:
		m.log = store.Crash(m.log, s.N)
		m.hall = journal.Replay(m.log.Bytes)
		m.safe, m.guests = m.hall, nil
	case 7:
		m.log, _ = journal.Write(api.Log{}, journal.Short(m.hall))
		m.log.Sure, m.safe = len(m.log.Bytes), m.hall
	}
}

// askBy makes an ask of two bytes; some of them are refused, none is wrong.
func askBy(c, d byte) api.Ask {
	name := []string{"q", "dead", "e", "q"}[d%4]
	switch c % 16 {
	case 0:
		return api.Ask{Kind: api.AskPing}
	case 1, 2:
		return api.Ask{Kind: api.AskMake, Queue: name, N: int(d/4) % 10}
	case 3:
		if d%16 == 0 {
			return api.Ask{Kind: api.AskDrop, Queue: name}
		}
		return api.Ask{Kind: api.AskPurge, Queue: name}
	case 4, 5, 6, 7:
		n := letter()
		n.Body = append(n.Body, d)
		return api.Ask{Kind: api.AskPut, Queue: name, Note: n}
	case 8, 9:
		return api.Ask{Kind: api.AskTake, Queue: name}
	case 10, 11, 12:
		return askWait(name, 1+int(d/4)%9)
	case 13:
		return api.Ask{Kind: api.AskDone, N: 1 + int(d)%9}
	}
	return api.Ask{Kind: api.AskBack, N: 1 + int(d)%9}
}

// writer has what is still to come from each one: asks in their tongue, in pieces of any size.
type writer map[int][]byte

func (w writer) piece(t *testing.T, n, tongue int, c, d byte) string {
	if len(w[n]) == 0 {
		for k := range 1 + c/16%4 {
			b, err := gate.AskBytes(tongue, askBy(d+k*37, c+d*5+k))
			check(t, err, api.OK)
			w[n] = append(w[n], b...)
		}
		if c == 0xF3 {
			w[n] = append(w[n], "zap\r\n\r\n"...)
		}
	}
	size := min(len(w[n]), 1+int(d))
	out := string(w[n][:size])
	w[n] = w[n][size:]
	return out
}

// stepBy makes a step of two bytes.
func (w writer) stepBy(t *testing.T, m *model, c, d byte) api.Step {
	n := int(d/16) % 5
	if there := len(m.guests); n < 4 && there > 0 {
		n %= there
	}
	switch c % 16 {
	case 0:
		return open(int(d) % 5)
	case 10:
		if d%8 == 0 {
			return shut(n)
		}
	case 11, 12:
		return tick
	case 13:
		return sync
	case 14:
		if d%8 == 0 {
			clear(w)
			return crash(int(d)/2 - 5)
		}
		return sync
	case 15:
		if d%16 == 0 {
			return api.Step{Kind: int(d)/16 - 5}
		}
		return short
	}
	if len(m.guests) == 0 {
		return open(1 + int(d)%3)
	}
	if n >= len(m.guests) || m.guests[n].shut {
		return in(n, pings(int(c/16)))
	}
	return in(n, w.piece(t, n, m.guests[n].tongue, c, d))
}

// walk holds Do against the model, step by step. The log begins with a record that is no entry, so that its end may be near.
func walk(t *testing.T, room byte, steps []byte) {
	l, err := store.Append(api.Log{}, [][]byte{make([]byte, api.MaxLog-4-8*int(room))})
	check(t, err, api.OK)
	l = store.Sync(l)
	b := api.Bridge{Log: l}
	m, w := &model{log: l}, writer{}
	for at := 0; at+1 < len(steps) && !t.Failed(); at += 2 {
		s := w.stepBy(t, m, steps[at], steps[at+1])
		left := 0
		if s.Kind == api.StepIn && s.N < len(b.Conns) {
			left = len(b.Conns[s.N].In)
		}
		x, told := bridge.Do(b, s)
		check(t, told, m.do(s, left))
		checkBridge(t, x, m.bridge(t))
		checkSafe(t, m, x)
		b = x
		if t.Failed() {
			t.Logf("step %d: %d, %d, %q", at/2, s.Kind, s.N, s.Data)
		}
	}
}

// checkBridge looks at logs first by their bytes: to have all of them told takes long.
func checkBridge(t *testing.T, got, want api.Bridge) {
	t.Helper()
	if bytes.Equal(got.Log.Bytes, want.Log.Bytes) {
		got.Log.Bytes, want.Log.Bytes = nil, nil
	}
	check(t, got, want)
}

// checkSafe: the journal tells what was done, and of what is sure what went out: that much a crash leaves.
func checkSafe(t *testing.T, m *model, b api.Bridge) {
	t.Helper()
	check(t, journal.Replay(b.Log.Bytes).Queues, hall.Plain(b.Hall).Queues)
	gone, err := bridge.Do(b, crash(0))
	check(t, err, api.OK)
	check(t, gone.Hall.Queues, hall.Plain(m.safe).Queues)
}

func FuzzSteps(f *testing.F) {
	f.Add(byte(0), []byte{})
	for seed := range 20 {
		steps := []byte{0, 1, 0, 2, 0, 3, 0, 2}
		x := uint32(seed*7907 + 1)
		for range 600 {
			x = x*1664525 + 1013904223
			steps = append(steps, byte(x>>24))
		}
		f.Add(byte(seed*13), steps)
	}
	f.Fuzz(walk)
}
