package bridge

import (
	"slices"

	"trivetgate/api"
	"trivetgate/gate"
	"trivetgate/session"
)

// never is no tick: Until, of who does not wait for one.
const never = -1

// settle has all go on in turn, an ask each, until nobody can.
func settle(b *api.Bridge) {
	for round(b) {
	}
}

// round tells whether anybody did anything.
func round(b *api.Bridge) bool {
	done := false
	for k := range b.Conns {
		if c := &b.Conns[k]; !c.Shut && turn(b, c) {
			done = true
		}
	}
	return done
}

// turn tells whether c did anything: of all that may let somebody go on there is something held.
func turn(b *api.Bridge, c *api.Conn) bool {
	held := len(c.Held)
	read(b, c)
	answer(b, c)
	return len(c.Held) > held
}

func hasRoom(c *api.Conn) bool {
	return len(c.Held) < api.MaxHeld
}

// read makes asks that wait of what has come. Who writes what is wrong leaves, but not ahead of what they asked before.
func read(b *api.Bridge, c *api.Conn) {
	asks, left, err := gate.Asks(c.Tongue, c.In, api.MaxAsks-len(c.Asks))
	c.Asks, c.In = append(c.Asks, asks...), left
	if err != api.OK && len(c.Asks) == 0 && hasRoom(c) {
		c.Held = append(c.Held, api.Say{Kind: api.SayErr, Err: err})
		leave(b, c)
	}
}

// answer has the first ask that waits answered, if there is one, and if it is not to wait still. Who left has none.
func answer(b *api.Bridge, c *api.Conn) {
	if len(c.Asks) == 0 || !hasRoom(c) {
		return
	}
	h, l, s, say, err := session.Do(b.Hall, b.Log, c.Session, c.Asks[0], b.Now)
	if err == api.ErrMore {
		if waits(c, b.Now) {
			return
		}
		say = api.Say{Kind: api.SayNone}
	}
	b.Hall, b.Log, c.Session = h, l, s
	c.Held = append(c.Held, say)
	c.Asks = slices.Delete(c.Asks, 0, 1)
	c.Until = never
}

// waits tells whether the first ask is to wait still. The tick until which it may is set once, when it came to be the first.
func waits(c *api.Conn, now int) bool {
	if c.Until < 0 {
		c.Until = now + c.Asks[0].N
	}
	return now < c.Until
}

// leave has c gone, with all that they were given come back; what was said to them goes out still.
func leave(b *api.Bridge, c *api.Conn) {
	b.Hall, b.Log = session.Leave(b.Hall, b.Log, c.Session)
	*c = api.Conn{Tongue: c.Tongue, Until: never, Held: c.Held, Out: c.Out, Shut: true}
}
