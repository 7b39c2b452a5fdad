package session

import (
	"trivetgate/api"
	"trivetgate/note"
)

// Wrong tells the first thing that is wrong with a; OK, if a is right.
func Wrong(a api.Ask) api.Errno {
	// The cases stand in the order in which errors are told.
	switch {
	case a.Kind < api.AskPing || a.Kind > api.AskPurge:
		return api.ErrKind
	case !rightQueue(a):
		return api.ErrName
	case !rightNumber(a):
		return api.ErrRange
	case a.Kind != api.AskPut && hasNote(a):
		return api.ErrForm
	}
	return note.Wrong(a.Note)
}

func rightQueue(a api.Ask) bool {
	switch a.Kind {
	case api.AskMake, api.AskDrop, api.AskPut, api.AskTake, api.AskWait, api.AskPurge:
		return note.Key(a.Queue)
	}
	return a.Queue == ""
}

// rightNumber asks of AskMake only for a number that can be written: which limits a queue may have is the hall's to say.
func rightNumber(a api.Ask) bool {
	switch a.Kind {
	case api.AskMake:
		return a.N >= 0 && a.N <= api.MaxInt
	case api.AskWait:
		return a.N >= 1 && a.N <= api.MaxWait
	case api.AskDone, api.AskBack:
		return a.N >= 1 && a.N <= api.MaxInt
	}
	return a.N == 0
}

func hasNote(a api.Ask) bool {
	return len(a.Note.Props) > 0 || len(a.Note.Body) > 0
}
