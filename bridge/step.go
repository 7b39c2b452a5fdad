package bridge

import (
	"trivetgate/api"
	"trivetgate/gate"
	"trivetgate/hall"
	"trivetgate/journal"
	"trivetgate/store"
)

// step changes b itself. Whatever it refuses, it does so ahead of any change.
func step(b *api.Bridge, s api.Step) api.Errno {
	switch s.Kind {
	case api.StepOpen:
		return enter(b, s.N)
	case api.StepIn:
		return come(b, s.N, s.Data)
	case api.StepClose:
		return shut(b, s.N)
	case api.StepTick:
		tick(b)
	case api.StepSync:
		syncAll(b)
	case api.StepCrash:
		crash(b, s.N)
	case api.StepShort:
		return shorten(b)
	default:
		return api.ErrKind
	}
	return api.OK
}

// enter has somebody there, of that tongue.
func enter(b *api.Bridge, tongue int) api.Errno {
	// It is the gate that knows the tongues: of none of them it reads nothing.
	if _, _, err := gate.Asks(tongue, nil, 0); err != api.OK {
		return err
	}
	if len(b.Conns) >= api.MaxConns {
		return api.ErrMany
	}
	b.Conns = append(b.Conns, api.Conn{Tongue: tongue, Until: never})
	return api.OK
}

func find(b *api.Bridge, n int) (*api.Conn, api.Errno) {
	if n < 0 || n >= len(b.Conns) {
		return nil, api.ErrNone
	}
	return &b.Conns[n], api.OK
}

// come lays data behind what has come from n.
func come(b *api.Bridge, n int, data []byte) api.Errno {
	c, err := find(b, n)
	switch {
	case err != api.OK:
		return err
	case c.Shut:
		return api.ErrShut
	case len(c.In)+len(data) > 2*api.MaxIn:
		return api.ErrFull
	}
	c.In = append(c.In, data...)
	return api.OK
}

func shut(b *api.Bridge, n int) api.Errno {
	c, err := find(b, n)
	if err == api.OK && !c.Shut {
		leave(b, c)
	}
	return err
}

// tick has time go on, also where the log has no room to tell what came back: that stays given then, until there is.
func tick(b *api.Bridge) {
	b.Now++
	h, told := hall.Tick(b.Hall, b.Now)
	if l, err := journal.Write(b.Log, told); err == api.OK {
		b.Hall, b.Log = h, l
	}
}

// syncAll has all go out that is held: what it tells of is safe by then.
func syncAll(b *api.Bridge) {
	b.Log = store.Sync(b.Log)
	for k := range b.Conns {
		c := &b.Conns[k]
		for _, say := range c.Held {
			// All that is held is right, of a tongue that there is: there is no error.
			said, _ := gate.SayBytes(c.Tongue, say)
			c.Out = append(c.Out, said...)
		}
		c.Held = nil
	}
}

// crash leaves of all that is not safe only so many bytes of the log, and nobody.
func crash(b *api.Bridge, keep int) {
	b.Log = store.Crash(b.Log, keep)
	b.Hall = journal.Replay(b.Log.Bytes)
	b.Conns = nil
}

// shorten writes the journal anew, as if that were done at once: what is not safe yet may not become so by it.
func shorten(b *api.Bridge) api.Errno {
	if b.Log.Sure < len(b.Log.Bytes) {
		return api.ErrMore
	}
	l, err := journal.Write(api.Log{}, journal.Short(b.Hall))
	if err != api.OK {
		return err
	}
	b.Log = store.Sync(l)
	return api.OK
}
