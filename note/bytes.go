package note

import "trivetgate/api"

// Bytes writes a right note as bytes.
func Bytes(n api.Note) []byte {
	out := []byte{byte(len(n.Props))}
	for _, p := range n.Props {
		out = appendProp(out, p)
	}
	out = append(out, byte(len(n.Body)))
	return append(out, n.Body...)
}

func appendProp(out []byte, p api.Prop) []byte {
	out = appendText(out, p.Key)
	out = append(out, byte(p.Kind))
	if p.Kind == api.PropText {
		return appendText(out, p.Text)
	}
	return appendNumber(out, p.N)
}

func appendText(out []byte, s string) []byte {
	out = append(out, byte(len(s)))
	return append(out, s...)
}

// The wrap-round to 32 bits is what adds 2^32 to a number below 0.
func appendNumber(out []byte, n int) []byte {
	u := uint32(n)
	return append(out, byte(u>>24), byte(u>>16), byte(u>>8), byte(u))
}

// Parse reads the note that b begins with, and tells how many bytes it has.
func Parse(b []byte) (api.Note, int, api.Errno) {
	r := reader{rest: b}
	many := r.size()
	if r.short {
		return api.Note{}, 0, api.ErrMore
	}
	if many > api.MaxProps {
		return api.Note{}, 0, api.ErrMany
	}
	n := r.note(many)
	if r.short {
		return api.Note{}, 0, api.ErrMore
	}
	if err := Wrong(n); err != api.OK {
		return api.Note{}, 0, err
	}
	return n, len(b) - len(r.rest), api.OK
}

// reader takes parts off the front of rest. Once rest was too short for a part it stays short and gives noughts, so that only the end of a whole note has to ask.
type reader struct {
	rest  []byte
	short bool
}

// take gives a piece of what was handed in: whoever keeps it makes a copy.
func (r *reader) take(n int) []byte {
	if r.short || len(r.rest) < n {
		r.short = true
		return nil
	}
	part := r.rest[:n]
	r.rest = r.rest[n:]
	return part
}

// size reads a byte that tells how many follow, or of which kind.
func (r *reader) size() int {
	part := r.take(1)
	if r.short {
		return 0
	}
	return int(part[0])
}

func (r *reader) text() string {
	return string(r.take(r.size()))
}

// The way over int32 is what takes 2^32 off what was written of a number below 0.
func (r *reader) number() int {
	u := uint32(0)
	for _, c := range r.take(4) {
		u = u<<8 | uint32(c)
	}
	return int(int32(u))
}

func (r *reader) prop() api.Prop {
	p := api.Prop{Key: r.text()}
	p.Kind = r.size()
	if p.Kind == api.PropText {
		p.Text = r.text()
	} else {
		p.N = r.number()
	}
	return p
}

func (r *reader) note(many int) api.Note {
	n := api.Note{}
	for range many {
		n.Props = append(n.Props, r.prop())
	}
	n.Body = append(n.Body, r.take(r.size())...)
	return n
}
