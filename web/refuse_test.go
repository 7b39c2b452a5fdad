package web_test

import (
	"slices"
	"strconv"
	"strings"
	"testing"

	"trivetgate/api"
)

// inShort is the page of which s is a short form: | ends a line, || the heads; a content-length is there also if s has none.
func inShort(s string) string {
	heads, body, _ := strings.Cut(s, "||")
	if !strings.Contains(heads, "content-length") {
		heads += "|content-length: " + strconv.Itoa(len(body))
	}
	return sheet(body, strings.Split(heads, "|")...)
}

// refusals looks at pages in short, by what is told of them.
func refusals[T any](t *testing.T, x tongue[T], tests map[api.Errno][]string) {
	for want, pages := range tests {
		for _, s := range pages {
			page := inShort(s)
			x.refused(t, page, want)
			x.refused(t, page+"GET /ping HTTP/1.1\r\n", want)
			if _, _, got := x.told(page); got != want {
				t.Errorf("the model tells %d of %q, not %d", got, page, want)
			}
		}
	}
}

// asked are first lines of asks.
func asked(method string, paths ...string) []string {
	var out []string
	for _, p := range paths {
		out = append(out, method+" "+p+" HTTP/1.1")
	}
	return out
}

// manyHeads are pages of one first line, and other heads each.
func manyHeads(first string, heads ...string) []string {
	var out []string
	for _, s := range heads {
		out = append(out, first+"|"+s)
	}
	return out
}

// manyFirsts are pages of other first lines each, and the same behind.
func manyFirsts(end string, firsts ...string) []string {
	var out []string
	for _, s := range firsts {
		out = append(out, s+end)
	}
	return out
}

// badHeads are heads of which one is none.
func badHeads() []string {
	bad := []string{
		"x", "x:", "x:y", "x :y", ":", " ", "\r", "\n", "\x00", "GET /ping HTTP/1.1",
		"p-a", "p-a:1", "p-a=1", "p-a: ", "p-a:  1", "p-a: 1 ", "p-a: x", "p-a: 01", "p-a: +1", "p-a: -0", "p-a: 1\r", "p-a: 1\n", "p-a: 1073741825",
		"p-a: $6", "p-a: $6A", "p-a: $ 61", "p-a: !", "p-a: !x", "p-a: !1073741825", "p-a: #", "p-a: b: 1", "p-: ", "p-: x", "p-A: x", "p-a : x",
	}
	var out []string
	for _, s := range bad {
		out = append(out, s, "p-a: 1|"+s, s+"|p-a: 1", "content-length: 0|"+s)
	}
	return out
}

// badSizes are heads that do not tell just once how many bytes the body has.
func badSizes() []string {
	out := []string{
		"content-length", "content-length:0", "content-length : 0", " content-length: 0", "p-content-length: 0|content-lengths: 0",
		"content-length: 0|content-length: 0", "content-length: 0|content-length: 1", "content-length: 0|p-a: 1|content-length: x", "content-length: 0|content-length: -1",
		"content-length: -1|content-length: 0",
	}
	for _, s := range []string{
		"", "-1", "-1073741824", "x", "01", "+0", "-0", "00", " 0", "0 ", "0\r", "0\n", "$00", "!0", "0, 0",
		"1073741825", "2147483648", "4294967296", "18446744073709551616", "99999999999999999999",
	} {
		out = append(out, "content-length: "+s, "p-a: 1|content-length: "+s)
	}
	return out
}

// I2: heads that are none, whatever the first line is.
func TestBadHeads(t *testing.T) {
	for _, first := range []string{"POST /queue/q HTTP/1.1", "GET /ping HTTP/1.1", "GET /none HTTP/1.1", "HTTP/1.1 200 OK", "HTTP/1.1 999 None", ""} {
		tests := map[api.Errno][]string{api.ErrForm: manyHeads(first, append(badHeads(), badSizes()...)...)}
		refusals(t, asks(), tests)
		refusals(t, says(), tests)
		for _, s := range []string{"", "p-a: 1\r\n", "x: 1\r\n", "Content-Length: 0\r\n", "CONTENT-LENGTH: 0\r\n"} {
			asks().refused(t, first+"\r\n"+s+"\r\n", api.ErrForm)
			says().refused(t, first+"\r\n"+s+"\r\n", api.ErrForm)
		}
	}
}

// Heads of a note that has too much of something, alone, and a body that is too long.
const (
	manyProps = "|p-a: 1|p-a: 1|p-a: 1|p-a: 1|p-a: 1"
	longText  = "|p-a: $00000000000000000000000000"
	longKey   = "|p-abcdefghi: 1"
)

var longBody = "||" + strings.Repeat("z", api.MaxBody+1)

// I2: first lines of asks, and heads, that are not as they must be.
func TestAskRefusesForm(t *testing.T) {
	refusals(t, asks(), map[api.Errno][]string{api.ErrForm: slices.Concat(
		[]string{
			"", " ", "z", "ping", "GET", "GET /ping", "GET /ping ", "/ping HTTP/1.1", "HTTP/1.1", " HTTP/1.1", "HTTP/1.1 GET /ping", "HTTP/1.1 200 OK", "HTTP/1.1 204 None",
			"GET /ping HTTP/1.0", "GET /ping HTTP/1", "GET /ping HTTP/1.10", "GET /ping http/1.1", "GET /ping HTTP/1.1\r", "GET /ping HTTP/1.1\n", "POST /none x y",
			" GET /ping HTTP/1.1", "GET  /ping HTTP/1.1", "GET /ping  HTTP/1.1", "GET /ping HTTP/1.1 ", "GET /ping HTTP/1.1 HTTP/1.1",
			"GET /ping\tHTTP/1.1", "GET\t/ping\tHTTP/1.1", "GET /queue/a b HTTP/1.1", "GET /queue/ q HTTP/1.1",
		},
		manyFirsts("|x: 1", "GET /ping HTTP/1.1", "POST /queue/q HTTP/1.1", "POST /queue/Q HTTP/1.1", "GET /none HTTP/1.1", "x y HTTP/1.1", "x"),
		manyHeads("POST /queue/q HTTP/1.1", "x: ", ": ", ":: ", "content-length: 0|x: y", "host: a", "Content-Length: 0|content-length: 0", "content-lengths: 0|content-length: 0",
			"p: 1", "P-a: 1", " p-a: 1", "p_a: 1", "-p-a: 1", "p-a: 1|p: 1", "tag: 1|tries: 0", "error: 1", "x: 1"+manyProps, "x: 1"+longBody),
	)})
}

// I2: first lines of asks that are none.
func TestAskRefusesKind(t *testing.T) {
	refusals(t, asks(), map[api.Errno][]string{api.ErrKind: slices.Concat(
		[]string{"  HTTP/1.1", " /ping HTTP/1.1", "HTTP/1.1 HTTP/1.1 HTTP/1.1"},
		asked("GET", "", "/", "ping", "//ping", "/ping/", "/ping/3", "/Ping", "/pings", "/pin", "/ping\n"),
		asked("get", "/ping"), asked("GETS", "/ping"), asked("GET\r", "/ping"), asked("POST", "/ping"), asked("PUT", "/ping"), asked("DELETE", "/ping"),
		asked("PUT", "/queue", "/queue/q", "/queue/q/", "/queue/q/x", "/queue/q/03", "/queue/q/+3", "/queue/q/-0", "/queue/q/3/", "/queue/q/3/4", "/queue/q//3",
			"/queue/q/1073741825", "/queue/q/4294967299", "/queue/q/items", "queue/q/3", "/queues/q/3", "//q/3", "//queue/q/3", "/tag/3", "/tag/q/3"),
		asked("DELETE", "/", "/queue", "/queue/q/", "/queue/q/3", "/queue/q/item", "/queue/q/items/", "/queue/q/Items", "/queue/q//items", "/queue/q/items/items", "/Queue/q"),
		asked("POST", "/queue", "/queue/q/", "/queue/q/3", "/queue/q/items"),
		asked("GET", "/queue", "/queue/q/", "/queue/q/x", "/queue/q/04", "/queue/q/4/", "/queue/q/4/4", "/queue/q/items"),
		asked("DELETE", "/tag", "/tag/", "/tag/x", "/tag/01", "/tag/1/", "/tag/1/2", "/tag/q/1", "/tag/1/items", "/tag/1073741825", "/tags/3"),
		asked("POST", "/tag", "/tag/", "/tag/x", "/tag/+1", "/tag/1/", "/tag/1073741825"),
		asked("GET", "/tag/1", "/tag/q/1"), asked("HEAD", "/queue/q"),
		manyFirsts(manyProps, "GET /none HTTP/1.1", "PUT /queue/Q/x HTTP/1.1"), manyFirsts(longBody, "GET /none HTTP/1.1", "POST /queue/q/ HTTP/1.1"),
	)})
}

// I2: asks that are Wrong, in the order in which it is told.
func TestAskRefusesWrong(t *testing.T) {
	const put = "POST /queue/q HTTP/1.1"
	refusals(t, asks(), map[api.Errno][]string{
		api.ErrName: slices.Concat(
			asked("PUT", "/queue//3", "/queue/Q/3", "/queue/Q/-1", "/queue/abcdefghi/3", "/queue/3/3", "/queue/q\r/3"),
			asked("DELETE", "/queue/", "/queue/Q", "/queue/%61", "/queue/q?x", "/queue/\xff", "/queue//items", "/queue/Q/items"),
			asked("POST", "/queue/", "/queue/Q", "/queue/q\n"), asked("GET", "/queue/", "/queue/q=", "/queue/queue-q", "/queue//4", "/queue/Q/0", "/queue/abcdefghi/10"),
			manyFirsts("|p-a: 1", "GET /queue/Q HTTP/1.1", "POST /queue/ HTTP/1.1"), manyFirsts(manyProps, "POST /queue/Q HTTP/1.1"),
			manyHeads(put, "p-: 1", "p-A: 1", "p-p-a: 1", "p-a : 1", "p-a:: 1", "p-a:b: 1", "p-a b: 1", "p-\n: 1", "p-A: !7", "p-A: 1"+longBody, "p-a: 1|p-: 1", "p-content-length: 0|content-length: 0"),
			manyFirsts(longKey, put),
		),
		api.ErrRange: slices.Concat(
			asked("PUT", "/queue/q/-1", "/queue/q/-1073741824"), asked("GET", "/queue/q/0", "/queue/q/10", "/queue/q/-1", "/queue/q/1073741824"),
			asked("DELETE", "/tag/0", "/tag/-1", "/tag/-1073741824"), asked("POST", "/tag/0", "/tag/-1"),
			manyFirsts("|p-a: 1", "GET /queue/q/0 HTTP/1.1", "POST /tag/0 HTTP/1.1"),
			manyHeads(put, "p-a: !2", "p-a: !-1", "p-a: !1073741824", "p-a: !2|p-: 1", "p-a: !2"+longText, "p-a: !2"+longBody),
		),
		api.ErrForm: slices.Concat(notesOnOthers("|p-a: 1"), notesOnOthers("||z"), notesOnOthers(manyProps), notesOnOthers(longBody)),
		api.ErrMuch: manyFirsts("", put+longText, put+longBody, put+"|p-a: 1"+longBody, put+longText+"|p-a: !2"),
		api.ErrMany: manyFirsts("", put+manyProps, put+"|p-: !9"+manyProps+longBody),
	})
}

// notesOnOthers are asks that have a note, and may have none.
func notesOnOthers(note string) []string {
	return manyFirsts(note, slices.Concat(
		asked("GET", "/ping", "/queue/q", "/queue/q/3"), asked("PUT", "/queue/q/3"), asked("DELETE", "/queue/q", "/tag/3", "/queue/q/items"), asked("POST", "/tag/3"))...)
}

const (
	okLine   = "HTTP/1.1 200 OK"
	noneLine = "HTTP/1.1 204 None"
	errLine  = "HTTP/1.1 400 Wrong"
)

// I2: first lines of answers that are none.
func TestSayRefusesKind(t *testing.T) {
	refusals(t, says(), map[api.Errno][]string{api.ErrKind: slices.Concat(
		[]string{
			"", " ", "z", "HTTP/1.1", "200 OK", "GET /ping HTTP/1.1", "x y HTTP/1.1",
			"HTTP/1.1 200", "HTTP/1.1 200 ok", "HTTP/1.1 200 OK ", " HTTP/1.1 200 OK", "HTTP/1.1  200 OK", "HTTP/1.0 200 OK", "http/1.1 200 OK", "HTTP/1.1 200 OK\r",
			"HTTP/1.1 200 OK\n", "HTTP/1.1 200 OKAY", "HTTP/1.1 200 None", "HTTP/1.1 200 Wrong", "HTTP/1.1 204", "HTTP/1.1 204 none", "HTTP/1.1 204 OK", "HTTP/1.1 404 None",
			"HTTP/1.1 400", "HTTP/1.1 400 wrong", "HTTP/1.1 400 Wrong ", "HTTP/1.1 401 Wrong",
		},
		manyFirsts("|x: 1", "HTTP/1.1 999 OK", "z"), manyFirsts("|tag: 1|tries: 0", "HTTP/1.1 201 OK"), manyFirsts("|error: 1", "HTTP/1.1 404 Wrong"),
		manyFirsts(manyProps, "HTTP/1.1 999 OK"),
	)})
}

// I2: heads of answers that are not just those that there must be, and notes where there may be none.
func TestSayRefusesForm(t *testing.T) {
	refusals(t, says(), map[api.Errno][]string{api.ErrForm: slices.Concat(
		manyHeads(okLine, "x: 1", "error: 1", "tag: 1", "tries: 1", "tries: 1|tag: 1", "tag: 1|tag: 1", "tag: 1|tries: 1|tries: 1", "tag: 1|tag: 1|tries: 1",
			"x: 1|tag: 1|tries: 1", "tag: 1|x: 1|tries: 1", "tag: 1|tries: 1|x: 1", "tag: 1|tries: 1|content-length: 0|error: 1", "tag: 0|tries: 9|x: 1",
			"Tag: 1|tries: 1", "tag: 1|Tries: 1", "tag : 1|tries: 1", "tag: 1|try: 1", "tag: x|tries: 1", "tag: 1|tries: x", "tag: |tries: 1", "tag: 1|tries: ",
			"tag: 01|tries: 1", "tag: 1|tries: 01", "tag: +1|tries: 1", "tag: 1|tries: -0", "tag: 1 |tries: 1", "tag:  1|tries: 1", "tag: !1|tries: 1",
			"tag: 1073741825|tries: 1", "tag: 1|tries: 1073741825", "tag: 1\ntries: 1", "tag: x|tries: 1"+manyProps),
		manyHeads(noneLine, "x: 1", "tag: 1|tries: 1", "error: 1", "error: x"),
		manyHeads(errLine, "x: 1", "error: x", "error: ", "error: 03", "error: +3", "error: 3 ", "error:  3", "error: -0", "error: 1073741825", "Error: 3", "errors: 3", "tag: 3",
			"error: 3|error: 3", "error: 3|x: 3", "x: 3|error: 3", "tag: 1|tries: 1", "error: 0|x: 1", "p-a: 1", "content-length: 0"),
		manyFirsts("|p-a: 1", okLine, noneLine, errLine+"|error: 3"), manyFirsts("||z", okLine, noneLine, errLine+"|error: 3"),
		manyFirsts(manyProps, okLine, noneLine, errLine+"|error: 3"), manyFirsts(longBody, okLine, noneLine, errLine+"|error: 3"),
	)})
}

// I2: answers that are Wrong, in the order in which it is told.
func TestSayRefusesWrong(t *testing.T) {
	const item = okLine + "|tag: 1|tries: 1"
	refusals(t, says(), map[api.Errno][]string{
		api.ErrRange: slices.Concat(
			manyHeads(okLine, "tag: 0|tries: 0", "tag: -1|tries: 0", "tag: -1073741824|tries: 0", "tag: 1|tries: -1", "tag: 1|tries: 4", "tag: 1|tries: 1073741824",
				"tag: 0|tries: 0"+manyProps, "tag: 1|tries: 4"+longBody),
			manyHeads(item, "p-a: !2", "p-a: !-1"+longBody),
			manyHeads(errLine, "error: 0", "error: 11", "error: 256", "error: -1", "error: 1073741824", "error: -1073741824", "error: 0|p-a: 1", "error: 11"+longBody),
		),
		api.ErrName: manyFirsts("", item+"|p-: 1", item+"|p-A: !2"+longBody, item+longKey),
		api.ErrMuch: manyFirsts("", item+longText, item+longBody),
		api.ErrMany: manyFirsts("", item+manyProps, item+"|p-: 1"+manyProps+longBody),
	})
}
