package lines

import (
	"bytes"
	"strings"

	"trivetgate/api"
	"trivetgate/frames"
	"trivetgate/session"
)

// Ask reads the ask that b begins with, and tells how many bytes it has.
func Ask(b []byte) (api.Ask, int, api.Errno) {
	return read(b, askOf, session.Wrong)
}

// Say reads the answer that b begins with, and tells how many bytes it has.
func Say(b []byte) (api.Say, int, api.Errno) {
	return read(b, sayOf, frames.Wrong)
}

// read reads the line that b begins with. parse tells whether its first word is of a kind that there is; of what is just so written, and only of that, wrong is asked.
func read[T any](b []byte, parse func(*reader) (T, bool), wrong func(T) api.Errno) (T, int, api.Errno) {
	var none T
	text, err := inside(b)
	if err != api.OK {
		return none, 0, err
	}
	r := reader{words: strings.Split(text, blank)}
	got, known := parse(&r)
	if !known {
		return none, 0, api.ErrKind
	}
	if !r.just() {
		return none, 0, api.ErrForm
	}
	if err := wrong(got); err != api.OK {
		return none, 0, err
	}
	return got, len(text) + 1, api.OK
}

// inside gives a copy of what is ahead of the first line feed of b.
func inside(b []byte) (string, api.Errno) {
	// A line that is too long is refused as soon as that is clear: nobody has to look for its end.
	end := bytes.IndexByte(b[:min(len(b), api.MaxIn)], lineFeed)
	switch {
	case end >= 0:
		return string(b[:end]), api.OK
	case len(b) < api.MaxIn:
		return "", api.ErrMore
	}
	return "", api.ErrMuch
}

func askOf(r *reader) (api.Ask, bool) {
	word := r.word()
	for _, s := range shapes {
		if s.word == word {
			return s.ask(r), true
		}
	}
	return api.Ask{}, false
}

func (s shape) ask(r *reader) api.Ask {
	a := api.Ask{Kind: s.kind}
	if s.queue {
		a.Queue = r.word()
	}
	if s.number {
		a.N = r.number()
	}
	if s.note {
		a.Note = r.note()
	}
	return a
}

func sayOf(r *reader) (api.Say, bool) {
	word := r.word()
	switch word {
	case okWord:
		return api.Say{Kind: api.SayOK}, true
	case itemWord:
		n, m := r.number(), r.number()
		return api.Say{Kind: api.SayItem, N: n, M: m, Note: r.note()}, true
	case noneWord:
		return api.Say{Kind: api.SayNone}, true
	}
	digits, is := strings.CutPrefix(word, errSign)
	if !is {
		return api.Say{}, false
	}
	return api.Say{Kind: api.SayErr, Err: api.Errno(r.numberIn(digits))}, true
}

// reader takes words off the front of a line. Once one was not as it must be it stays bad, so that only the end of a line has to ask.
type reader struct {
	words []string
	bad   bool
}

// just tells whether all was as it must be, and nothing is left.
func (r *reader) just() bool {
	return !r.bad && len(r.words) == 0
}

func (r *reader) must(good bool) {
	r.bad = r.bad || !good
}

func (r *reader) word() string {
	r.must(len(r.words) > 0)
	if r.bad {
		return ""
	}
	w := r.words[0]
	r.words = r.words[1:]
	return w
}

func (r *reader) number() int {
	return r.numberIn(r.word())
}

func (r *reader) numberIn(digits string) int {
	n, good := Number(digits)
	r.must(good)
	return n
}

func (r *reader) note() api.Note {
	n := api.Note{}
	for !r.bad {
		w := r.word()
		if hex, last := strings.CutPrefix(w, bodySign); last {
			body, good := Unhex(hex)
			r.must(good)
			n.Body = body
			break
		}
		n.Props = append(n.Props, r.propIn(w))
	}
	return n
}

func (r *reader) propIn(w string) api.Prop {
	// Of a word without the end of a key nothing is left for the value, and that is none.
	key, value, _ := strings.Cut(w, keyEnd)
	p, good := Prop(key, value)
	r.must(good)
	return p
}
