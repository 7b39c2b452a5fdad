package web

import (
	"slices"
	"strconv"
	"strings"

	"trivetgate/api"
	"trivetgate/lines"
)

const (
	blank = " "
	slash = "/"
)

// route is how asks of a kind are written: the method, the top of the path, and whether a queue, a number, and an end follow, in that order.
type route struct {
	kind          int
	method, top   string
	queue, number bool
	end           string
}

// One table for both ways: what is written is what is read.
var routes = [...]route{
	{kind: api.AskPing, method: "GET", top: "ping"},
	{kind: api.AskMake, method: "PUT", top: "queue", queue: true, number: true},
	{kind: api.AskDrop, method: "DELETE", top: "queue", queue: true},
	{kind: api.AskPut, method: "POST", top: "queue", queue: true},
	{kind: api.AskTake, method: "GET", top: "queue", queue: true},
	{kind: api.AskWait, method: "GET", top: "queue", queue: true, number: true},
	{kind: api.AskDone, method: "DELETE", top: "tag", number: true},
	{kind: api.AskBack, method: "POST", top: "tag", number: true},
	{kind: api.AskPurge, method: "DELETE", top: "queue", queue: true, end: "items"},
}

// place is what is enough to tell routes apart: no two have the same one.
type place struct {
	method, top string
	parts       int
}

func byPlace() map[place]route {
	all := map[place]route{}
	for _, r := range routes {
		all[place{r.method, r.top, len(r.parts(api.Ask{}))}] = r
	}
	return all
}

// line is the first line of an ask.
func (r route) line(a api.Ask) string {
	path := slash + strings.Join(r.parts(a), slash)
	return strings.Join([]string{r.method, path, version}, blank)
}

// parts are what stands behind the slashes of an ask's path.
func (r route) parts(a api.Ask) []string {
	parts := []string{r.top}
	if r.queue {
		parts = append(parts, a.Queue)
	}
	if r.number {
		parts = append(parts, strconv.Itoa(a.N))
	}
	if r.end != "" {
		parts = append(parts, r.end)
	}
	return parts
}

// routed reads the ask that method and path are; false, if they are none.
func routed(method, path string) (api.Ask, bool) {
	rest, rooted := strings.CutPrefix(path, slash)
	if !rooted {
		return api.Ask{}, false
	}
	parts := strings.Split(rest, slash)
	r, known := byPlace()[place{method, parts[0], len(parts)}]
	if !known {
		return api.Ask{}, false
	}
	return r.ask(parts)
}

// ask reads parts, of which there are as many as the route has.
func (r route) ask(parts []string) (api.Ask, bool) {
	a := api.Ask{Kind: r.kind}
	if r.queue {
		a.Queue = parts[1]
	}
	if r.number {
		a.N, _ = lines.Number(parts[len(parts)-1])
	}
	// A number that is none, or another end, is not what would be written.
	return a, slices.Equal(r.parts(a), parts)
}
