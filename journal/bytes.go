package journal

import (
	"trivetgate/api"
	"trivetgate/note"
)

// How many bytes stand ahead of Queue, and how many an ID has.
const (
	headSize = 2
	idSize   = 4
)

// Bytes writes an entry as a record of a log.
func Bytes(e api.Entry) []byte {
	out := []byte{byte(e.Kind), byte(len(e.Queue))}
	out = append(out, e.Queue...)
	switch e.Kind {
	case api.EnMake:
		return append(out, byte(e.N))
	case api.EnPut:
		return append(appendID(out, e.ID), note.Bytes(e.Note)...)
	case api.EnGone:
		return appendID(out, e.ID)
	}
	return out
}

func appendID(out []byte, id int) []byte {
	return append(out, byte(id>>24), byte(id>>16), byte(id>>8), byte(id))
}

// Parse reads an entry, which b has nothing behind.
func Parse(b []byte) (api.Entry, api.Errno) {
	e, rest, whole := head(b)
	if !whole {
		return api.Entry{}, api.ErrForm
	}
	if !isKind(e.Kind) {
		return api.Entry{}, api.ErrKind
	}
	e, whole = withRest(e, rest)
	if !whole {
		return api.Entry{}, api.ErrForm
	}
	return e, api.OK
}

// head reads what all kinds have, and gives what is behind it, a piece of b: whoever keeps it makes a copy.
func head(b []byte) (api.Entry, []byte, bool) {
	if len(b) < headSize {
		return api.Entry{}, nil, false
	}
	end := headSize + int(b[1])
	if len(b) < end {
		return api.Entry{}, nil, false
	}
	return api.Entry{Kind: int(b[0]), Queue: string(b[headSize:end])}, b[end:], true
}

func isKind(kind int) bool {
	return kind >= api.EnMake && kind <= api.EnGone
}

// withRest reads what e's kind has behind Queue, and tells whether that, and nothing more, is there.
func withRest(e api.Entry, rest []byte) (api.Entry, bool) {
	switch e.Kind {
	case api.EnMake:
		return withN(e, rest)
	case api.EnPut:
		return withItem(e, rest)
	case api.EnGone:
		return withID(e, rest)
	}
	return e, len(rest) == 0
}

func withN(e api.Entry, rest []byte) (api.Entry, bool) {
	if len(rest) != 1 {
		return e, false
	}
	e.N = int(rest[0])
	return e, true
}

func withID(e api.Entry, rest []byte) (api.Entry, bool) {
	if len(rest) != idSize {
		return e, false
	}
	for _, c := range rest {
		e.ID = e.ID<<8 | int(c)
	}
	return e, true
}

func withItem(e api.Entry, rest []byte) (api.Entry, bool) {
	if len(rest) < idSize {
		return e, false
	}
	e, _ = withID(e, rest[:idSize])
	n, size, err := note.Parse(rest[idSize:])
	e.Note = n
	return e, err == api.OK && size == len(rest)-idSize
}
