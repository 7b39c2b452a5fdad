package web

import (
	"strings"

	"trivetgate/api"
	"trivetgate/frames"
	"trivetgate/lines"
	"trivetgate/session"
)

// Ask reads the ask that b begins with, and tells how many bytes it has.
func Ask(b []byte) (api.Ask, int, api.Errno) {
	return read(b, askOf, session.Wrong)
}

// Say reads the answer that b begins with, and tells how many bytes it has.
func Say(b []byte) (api.Say, int, api.Errno) {
	return read(b, sayOf, frames.Wrong)
}

// read reads the page that b begins with. Only of what parse has read is wrong asked.
func read[T any](b []byte, parse func(page) (T, api.Errno), wrong func(T) api.Errno) (T, int, api.Errno) {
	var none T
	p, size, err := pageOf(b)
	if err != api.OK {
		return none, 0, err
	}
	got, err := parse(p)
	if err != api.OK {
		return none, 0, err
	}
	if err := wrong(got); err != api.OK {
		return none, 0, err
	}
	return got, size, api.OK
}

func askOf(p page) (api.Ask, api.Errno) {
	words := strings.Split(p.first, blank)
	if len(words) != 3 || words[2] != version || len(p.heads) > 0 {
		return api.Ask{}, api.ErrForm
	}
	a, known := routed(words[0], words[1])
	if !known {
		return api.Ask{}, api.ErrKind
	}
	a.Note = p.note
	return a, api.OK
}

func sayOf(p page) (api.Say, api.Errno) {
	kinds := map[string]int{okLine: api.SayOK, noneLine: api.SayNone, errLine: api.SayErr}
	kind, known := kinds[p.first]
	if !known {
		return api.Say{}, api.ErrKind
	}
	if kind == api.SayOK && len(p.heads) > 0 {
		kind = api.SayItem
	}
	s := api.Say{Kind: kind, Note: p.note}
	if !told(&s, p.heads) {
		return api.Say{}, api.ErrForm
	}
	return s, api.OK
}

// told lays into s what its heads tell; false, if they are not just those of its kind.
func told(s *api.Say, heads []head) bool {
	switch s.Kind {
	case api.SayItem:
		n, just := numbers(heads, tagName, triesName)
		s.N, s.M = n[0], n[1]
		return just
	case api.SayErr:
		n, just := numbers(heads, errName)
		s.Err = api.Errno(n[0])
		return just
	}
	return len(heads) == 0
}

// numbers reads heads of those names, in that order; false, if they are others, or no numbers.
func numbers(heads []head, names ...string) ([]int, bool) {
	out := make([]int, len(names))
	if len(heads) != len(names) {
		return out, false
	}
	for i, h := range heads {
		n, good := lines.Number(h.is)
		if !good || h.name != names[i] {
			return out, false
		}
		out[i] = n
	}
	return out, true
}
