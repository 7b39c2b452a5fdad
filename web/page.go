package web

import (
	"bytes"
	"slices"
	"strconv"
	"strings"

	"trivetgate/api"
	"trivetgate/lines"
)

const (
	lineEnd  = "\r\n"
	headsEnd = lineEnd + lineEnd
	headSign = ": "
)

// The heads that any page may have: of a property, with its key behind, and of how many bytes the body has.
const (
	propSign = "p-"
	sizeName = "content-length"
)

type head struct {
	name, is string
}

// page is what asks and answers have in common: heads are those beside the note's properties and its size.
type page struct {
	first string
	heads []head
	note  api.Note
}

func (p page) bytes() []byte {
	out := []byte(p.first + lineEnd)
	for _, h := range p.allHeads() {
		out = append(out, h.name+headSign+h.is+lineEnd...)
	}
	out = append(out, lineEnd...)
	return append(out, p.note.Body...)
}

func (p page) allHeads() []head {
	all := slices.Clone(p.heads)
	for _, x := range p.note.Props {
		all = append(all, head{name: propSign + x.Key, is: lines.Value(x)})
	}
	return append(all, head{name: sizeName, is: strconv.Itoa(len(p.note.Body))})
}

// pageOf reads the page that b begins with, and tells how many bytes it has.
func pageOf(b []byte) (page, int, api.Errno) {
	text, err := ahead(b)
	if err != api.OK {
		return page{}, 0, err
	}
	p, size, just := unwrapped(text)
	if !just {
		return page{}, 0, api.ErrForm
	}
	begin := len(text) + len(headsEnd)
	end := begin + size
	// A page that is too long is refused by its heads alone: nobody has to hold all of it first.
	if end > api.MaxIn {
		return page{}, 0, api.ErrMuch
	}
	if len(b) < end {
		return page{}, 0, api.ErrMore
	}
	p.note.Body = append([]byte(nil), b[begin:end]...)
	return p, end, api.OK
}

// ahead gives a copy of what is ahead of the end of the heads.
func ahead(b []byte) (string, api.Errno) {
	end := bytes.Index(b[:min(len(b), api.MaxIn)], []byte(headsEnd))
	switch {
	case end >= 0:
		return string(b[:end]), api.OK
	case len(b) < api.MaxIn:
		return "", api.ErrMore
	}
	return "", api.ErrMuch
}

// reader takes heads one by one, into a page; size is below 0 until it is told.
type reader struct {
	page page
	size int
}

// unwrapped reads a first line and heads, and how many bytes the body has; false, if they are not just so written.
func unwrapped(text string) (page, int, bool) {
	all := strings.Split(text, lineEnd)
	r := reader{page: page{first: all[0]}, size: -1}
	for _, line := range all[1:] {
		if !r.head(line) {
			return page{}, 0, false
		}
	}
	return r.page, r.size, r.size >= 0
}

func (r *reader) head(line string) bool {
	name, is, good := strings.Cut(line, headSign)
	if !good {
		return false
	}
	if name == sizeName {
		return r.sized(is)
	}
	if key, its := strings.CutPrefix(name, propSign); its {
		return r.prop(key, is)
	}
	r.page.heads = append(r.page.heads, head{name: name, is: is})
	return true
}

func (r *reader) sized(digits string) bool {
	n, good := lines.Number(digits)
	if !good || n < 0 || r.size >= 0 {
		return false
	}
	r.size = n
	return true
}

func (r *reader) prop(key, value string) bool {
	p, good := lines.Prop(key, value)
	if !good {
		return false
	}
	r.page.note.Props = append(r.page.note.Props, p)
	return true
}
