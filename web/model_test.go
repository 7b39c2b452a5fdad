package web_test

import (
	"regexp"
	"strings"

	"trivetgate/api"
	"trivetgate/lines"
)

// modelPage is what the model has of a page: its first line, all other heads as they stand there, and its note.
type modelPage struct {
	first, others string
	note          api.Note
}

// A head's name ends at the first colon with a blank behind.
var (
	headExpr = regexp.MustCompile(`(?s)^((?:[^:]|:+[^: ])*:*): (.*)$`)
	propExpr = regexp.MustCompile(`(?s)^p-(.*)$`)
)

// told is a second account of what reading b answers.
func (x tongue[T]) told(b string) (T, int, api.Errno) {
	var none T
	p, size, err := modelOf(b)
	if err != api.OK {
		return none, 0, err
	}
	is, err := x.model(p)
	if err == api.OK {
		err = x.wrong(is)
	}
	if err != api.OK {
		return none, 0, err
	}
	return is, size, api.OK
}

func modelOf(b string) (modelPage, int, api.Errno) {
	none := modelPage{}
	top, rest, ended := strings.Cut(b, "\r\n\r\n")
	if !ended && len(b) < api.MaxIn {
		return none, 0, api.ErrMore
	}
	if !ended || len(top)+4 > api.MaxIn {
		return none, 0, api.ErrMuch
	}
	p, sizes, good := modelTop(top)
	if !good || len(sizes) != 1 {
		return none, 0, api.ErrForm
	}
	size, good := lines.Number(sizes[0])
	if !good || size < 0 {
		return none, 0, api.ErrForm
	}
	if len(top)+4+size > api.MaxIn {
		return none, 0, api.ErrMuch
	}
	if size > len(rest) {
		return none, 0, api.ErrMore
	}
	p.note.Body = []byte(rest[:size])
	return p, len(top) + 4 + size, api.OK
}

// modelTop reads all that is ahead of a body, and each content-length that there is; false, if a head is none.
func modelTop(top string) (modelPage, []string, bool) {
	first, heads, _ := strings.Cut(top+"\r\n", "\r\n")
	p := modelPage{first: first}
	var sizes []string
	for heads != "" {
		var head string
		head, heads, _ = strings.Cut(heads, "\r\n")
		m := headExpr.FindStringSubmatch(head)
		if m == nil {
			return p, nil, false
		}
		if m[1] == "content-length" {
			sizes = append(sizes, m[2])
		} else if key := propExpr.FindStringSubmatch(m[1]); key != nil {
			x, good := lines.Prop(key[1], m[2])
			if !good {
				return p, nil, false
			}
			p.note.Props = append(p.note.Props, x)
		} else {
			p.others += head + "\r\n"
		}
	}
	return p, sizes, true
}

// modelRoutes are the first lines of asks, with a queue (q) and a number (n) where they have one.
var modelRoutes = []struct {
	kind int
	expr *regexp.Regexp
}{
	{api.AskPing, regexp.MustCompile(`^GET /ping HTTP/1\.1$`)},
	{api.AskMake, regexp.MustCompile(`^PUT /queue/(?P<q>[^/]*)/(?P<n>[^/]*) HTTP/1\.1$`)},
	{api.AskDrop, regexp.MustCompile(`^DELETE /queue/(?P<q>[^/]*) HTTP/1\.1$`)},
	{api.AskPut, regexp.MustCompile(`^POST /queue/(?P<q>[^/]*) HTTP/1\.1$`)},
	{api.AskTake, regexp.MustCompile(`^GET /queue/(?P<q>[^/]*) HTTP/1\.1$`)},
	{api.AskWait, regexp.MustCompile(`^GET /queue/(?P<q>[^/]*)/(?P<n>[^/]*) HTTP/1\.1$`)},
	{api.AskDone, regexp.MustCompile(`^DELETE /tag/(?P<n>[^/]*) HTTP/1\.1$`)},
	{api.AskBack, regexp.MustCompile(`^POST /tag/(?P<n>[^/]*) HTTP/1\.1$`)},
	{api.AskPurge, regexp.MustCompile(`^DELETE /queue/(?P<q>[^/]*)/items HTTP/1\.1$`)},
}

// modelAnswers are the first lines of answers, and their other heads, with numbers (n, m and e) where they have some.
var modelAnswers = []struct {
	kind  int
	first string
	expr  *regexp.Regexp
}{
	{api.SayOK, "HTTP/1.1 200 OK", regexp.MustCompile(`^$`)},
	{api.SayItem, "HTTP/1.1 200 OK", regexp.MustCompile(`^tag: (?P<n>[^\r\n]*)\r\ntries: (?P<m>[^\r\n]*)\r\n$`)},
	{api.SayNone, "HTTP/1.1 204 None", regexp.MustCompile(`^$`)},
	{api.SayErr, "HTTP/1.1 400 Wrong", regexp.MustCompile(`^error: (?P<e>[^\r\n]*)\r\n$`)},
}

var threeWords = regexp.MustCompile(`^[^ ]* [^ ]* HTTP/1\.1$`)

func modelAsk(p modelPage) (api.Ask, api.Errno) {
	if !threeWords.MatchString(p.first) || p.others != "" {
		return api.Ask{}, api.ErrForm
	}
	for _, r := range modelRoutes {
		f := fields{expr: r.expr, found: r.expr.FindStringSubmatch(p.first)}
		a := api.Ask{Kind: r.kind, Queue: f.text("q"), N: f.number("n"), Note: p.note}
		if f.found != nil && !f.bad {
			return a, api.OK
		}
	}
	return api.Ask{}, api.ErrKind
}

func modelSay(p modelPage) (api.Say, api.Errno) {
	err := api.ErrKind
	for _, r := range modelAnswers {
		if r.first != p.first {
			continue
		}
		err = api.ErrForm
		f := fields{expr: r.expr, found: r.expr.FindStringSubmatch(p.others)}
		s := api.Say{Kind: r.kind, N: f.number("n"), M: f.number("m"), Err: api.Errno(f.number("e")), Note: p.note}
		if f.found != nil && !f.bad {
			return s, api.OK
		}
	}
	return api.Say{}, err
}

// fields are what a regular expression found, by name; of a name that it has not nothing is bad.
type fields struct {
	expr  *regexp.Regexp
	found []string
	bad   bool
}

func (f *fields) text(name string) string {
	i := f.expr.SubexpIndex(name)
	if f.found == nil || i < 0 {
		return ""
	}
	return f.found[i]
}

func (f *fields) number(name string) int {
	if f.expr.SubexpIndex(name) < 0 {
		return 0
	}
	n, good := lines.Number(f.text(name))
	f.bad = f.bad || !good
	return n
}
