package lines_test

import (
	"regexp"
	"strconv"
	"strings"

	"trivetgate/api"
)

// model is a second account of lines, by regular expressions: which first words there are, and how lines are written.
type model struct {
	first, form *regexp.Regexp
}

// What stands in lines, as regular expressions. A key does not begin with #: that word would be the body.
var (
	numberExpr = `(?:0|-?` + upTo(api.MaxInt) + `)`
	hexExpr    = `(?:[0-9a-f]{2})*`
	propExpr   = ` (?:[^ =#][^ =]*)?=(?:` + numberExpr + `|!` + numberExpr + `|\$` + hexExpr + `)`
	noteExpr   = `(?:` + propExpr + `)* #` + hexExpr
)

var (
	askModel = model{
		first: regexp.MustCompile(`^(?:ping|make|drop|put|take|wait|done|back|purge)(?: |$)`),
		form: regexp.MustCompile(`^(?:ping|(?:make|wait) [^ ]* ` + numberExpr + `|(?:drop|take|purge) [^ ]*|put [^ ]*` +
			noteExpr + `|(?:done|back) ` + numberExpr + `)$`),
	}
	sayModel = model{
		first: regexp.MustCompile(`^(?:\+(?:ok|item|none)(?: |$)|-)`),
		form:  regexp.MustCompile(`^(?:\+ok|\+none|\+item ` + numberExpr + ` ` + numberExpr + noteExpr + `|-` + numberExpr + `)$`),
	}
)

// upTo is a regular expression of the numbers from 1 to most: shorter ones, those that have a lower digit somewhere, and most itself.
func upTo(most int) string {
	s := strconv.Itoa(most)
	all := []string{s, `[1-9][0-9]{0,` + strconv.Itoa(len(s)-2) + `}`}
	for k := range s {
		lowest := byte('0')
		if k == 0 {
			lowest = '1'
		}
		if s[k] > lowest {
			all = append(all, s[:k]+`[`+string(lowest)+`-`+string(s[k]-1)+`][0-9]{`+strconv.Itoa(len(s)-k-1)+`}`)
		}
	}
	return `(?:` + strings.Join(all, `|`) + `)`
}

// tells answers what is told of b ahead of all that Wrong tells; OK, if it is just so written.
func (m model) tells(b string) api.Errno {
	line, _, whole := strings.Cut(b, "\n")
	switch {
	case !whole && len(b) < api.MaxIn:
		return api.ErrMore
	case len(line)+1 > api.MaxIn || !whole:
		return api.ErrMuch
	case !m.first.MatchString(line):
		return api.ErrKind
	case !m.form.MatchString(line):
		return api.ErrForm
	}
	return api.OK
}
