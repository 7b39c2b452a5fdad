package frames

import (
	"trivetgate/api"
	"trivetgate/note"
)

// Wrong tells the first thing that is wrong with s; OK, if s is right.
func Wrong(s api.Say) api.Errno {
	// The cases stand in the order in which errors are told.
	switch {
	case s.Kind < api.SayOK || s.Kind > api.SayErr:
		return api.ErrKind
	case !rightNumbers(s) || !rightErr(s):
		return api.ErrRange
	case s.Kind != api.SayItem && hasNote(s):
		return api.ErrForm
	}
	return note.Wrong(s.Note)
}

func rightNumbers(s api.Say) bool {
	if s.Kind == api.SayItem {
		return s.N >= 1 && s.N <= api.MaxInt && s.M >= 0 && s.M <= api.MaxTries
	}
	return s.N == 0 && s.M == 0
}

func rightErr(s api.Say) bool {
	if s.Kind == api.SayErr {
		return s.Err > api.OK && s.Err <= api.ErrShut
	}
	return s.Err == api.OK
}

func hasNote(s api.Say) bool {
	return len(s.Note.Props) > 0 || len(s.Note.Body) > 0
}
