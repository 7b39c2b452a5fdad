// Package note has notes: see doc/01-note.md.
package note

import (
	"bytes"
	"slices"

	"trivetgate/api"
)

// Own answers a copy of n that shares no memory with it.
func Own(n api.Note) api.Note {
	// Not slices.Clone: of a list without entries it answers a piece of that same list.
	return api.Note{
		Props: append([]api.Prop(nil), n.Props...),
		Body:  append([]byte(nil), n.Body...),
	}
}

// Same tells whether a and b have the same properties, in turn, and the same body.
func Same(a, b api.Note) bool {
	return slices.Equal(a.Props, b.Props) && bytes.Equal(a.Body, b.Body)
}

// Key tells whether s may name a property, or a queue.
func Key(s string) bool {
	if len(s) < 1 || len(s) > api.MaxKey {
		return false
	}
	for i := range len(s) {
		if s[i] < 'a' || s[i] > 'z' {
			return false
		}
	}
	return true
}

// Wrong tells the first thing that is wrong with n; OK, if n is right.
func Wrong(n api.Note) api.Errno {
	if len(n.Props) > api.MaxProps {
		return api.ErrMany
	}
	for _, p := range n.Props {
		if err := wrongProp(p); err != api.OK {
			return err
		}
	}
	if len(n.Body) > api.MaxBody {
		return api.ErrMuch
	}
	return api.OK
}

// The cases stand in the order in which errors are told.
func wrongProp(p api.Prop) api.Errno {
	switch {
	case !Key(p.Key):
		return api.ErrName
	case !isKind(p.Kind):
		return api.ErrKind
	case !inRange(p):
		return api.ErrRange
	case p.Kind == api.PropText && len(p.Text) > api.MaxText:
		return api.ErrMuch
	case hasStray(p):
		return api.ErrForm
	}
	return api.OK
}

func isKind(kind int) bool {
	return kind == api.PropInt || kind == api.PropText || kind == api.PropFlag
}

// inRange tells whether N is one that the kind may have; of a text it is hasStray that asks.
func inRange(p api.Prop) bool {
	switch p.Kind {
	case api.PropInt:
		return p.N >= -api.MaxInt && p.N <= api.MaxInt
	case api.PropFlag:
		return p.N == 0 || p.N == 1
	}
	return true
}

// hasStray tells whether something stands in the field that p's kind has not.
func hasStray(p api.Prop) bool {
	if p.Kind == api.PropText {
		return p.N != 0
	}
	return p.Text != ""
}
