package web_test

import (
	"strings"
	"testing"

	"trivetgate/api"
)

// thereAndBack: whatever follows, what was written is read; with less, more must come.
func thereAndBack[T any](t *testing.T, x tongue[T]) {
	for _, w := range x.right {
		for _, more := range []string{"", "\n", "\r\n\r\n", "z", "\x00\xff", w.page, strings.Repeat("z", 500), strings.Repeat("\r\n", 500)} {
			x.comes(t, w.page+more, w)
		}
		for k := range w.page {
			x.refused(t, w.page[:k], api.ErrMore)
		}
	}
}

// I1 and I2: there, and back.
func TestThereAndBack(t *testing.T) {
	thereAndBack(t, asks())
	thereAndBack(t, says())
}

// filled is a page of n bytes without its body: where ~ stands it is as long as it must be.
func filled(n int, first string, heads ...string) string {
	text := sheet("", append([]string{first}, heads...)...)
	return strings.Replace(text, "~", strings.Repeat("~", n-len(text)+1), 1)
}

// sizes: what is told by where the heads end, and the page, whatever is ahead of that.
func sizes[T any](t *testing.T, x tongue[T]) {
	tests := []struct {
		name string
		b    string
		want api.Errno
	}{
		{"nothing", "", api.ErrMore},
		{"a byte", "z", api.ErrMore},
		{"MaxIn - 1 bytes", strings.Repeat("z", 399), api.ErrMore},
		{"MaxIn bytes", strings.Repeat("z", 400), api.ErrMuch},
		{"very many bytes", strings.Repeat("z", 70000), api.ErrMuch},
		{"line feeds alone", strings.Repeat("\n", 399), api.ErrMore},
		{"carriage returns alone", strings.Repeat("\r", 400), api.ErrMuch},
		{"heads that end with MaxIn", filled(400, "~", noBody), x.strange},
		{"heads that end with MaxIn, and more", filled(400, "~", noBody) + strings.Repeat("\r\n", 300), x.strange},
		{"heads that end behind MaxIn", filled(401, "~", noBody), api.ErrMuch},
		{"heads that end behind MaxIn, and come but in part", filled(402, "~", noBody)[:399], api.ErrMore},
		{"heads that end far behind MaxIn", filled(70000, "~", noBody), api.ErrMuch},
		{"no good head, and its end with MaxIn", filled(400, "x", "~"), api.ErrForm},
		{"no good head, and its end behind MaxIn", filled(401, "x", "~"), api.ErrMuch},
		{"no good head, and no end", "x\r\n~\r\n", api.ErrMore},
		{"a page that ends with MaxIn", filled(395, "~", "content-length: 5") + "12345", x.strange},
		{"the same, and more", filled(395, "~", "content-length: 5") + "123456789", x.strange},
		{"the same, and less", filled(395, "~", "content-length: 5") + "1234", api.ErrMore},
		{"a page that ends behind MaxIn", filled(396, "~", "content-length: 5") + "12345", api.ErrMuch},
		{"the same, without its body", filled(396, "~", "content-length: 5"), api.ErrMuch},
		{"a page that ends far behind MaxIn", filled(100, "~", "content-length: 1073741824"), api.ErrMuch},
		{"a body of MaxInt, and no good head", filled(100, "x", "content-length: 1073741824", "~"), api.ErrForm},
		{"a body that is not there, of a first line that is none", filled(100, "~", "content-length: 5"), api.ErrMore},
		{"a body that is not all there, and other heads", filled(100, "x", "~: 1", "content-length: 5") + "1234", api.ErrMore},
		{"a body that is too long, and other heads", filled(100, "x", "~: 1", "content-length: 301"), api.ErrMuch},
	}
	for _, c := range tests {
		t.Run(x.name+" "+c.name, func(t *testing.T) { x.refused(t, c.b, c.want) })
		if _, _, got := x.told(c.b); got != c.want {
			t.Errorf("%s: the model tells %d, not %d", c.name, got, c.want)
		}
	}
	if _, _, err := x.read(nil); err != api.ErrMore {
		t.Errorf("%s(nil) tells %d", x.name, err)
	}
}

// I2: the end of the heads, and of the page, and MaxIn.
func TestSizes(t *testing.T) {
	sizes(t, asks())
	sizes(t, says())
}

// I2: heads may stand in another order than they are written in, but for properties among themselves, and an answer's numbers.
func TestHeadsInAnyOrder(t *testing.T) {
	n := api.Note{Props: []api.Prop{{Key: "a", Kind: api.PropInt, N: 1}, {Key: "b", Kind: api.PropInt, N: 2}}, Body: []byte("z")}
	ask := api.Ask{Kind: api.AskPut, Queue: "q", Note: n}
	for _, heads := range []string{
		"p-a: 1|p-b: 2|content-length: 1", "p-a: 1|content-length: 1|p-b: 2", "content-length: 1|p-a: 1|p-b: 2",
	} {
		page := inShort("POST /queue/q HTTP/1.1|" + heads + "||z")
		asks().comes(t, page+"z", written[api.Ask]{ask, page})
	}
	say := api.Say{Kind: api.SayItem, N: 4, M: 3, Note: n}
	for _, heads := range []string{
		"content-length: 1|tag: 4|tries: 3|p-a: 1|p-b: 2", "tag: 4|p-a: 1|content-length: 1|tries: 3|p-b: 2", "p-a: 1|p-b: 2|content-length: 1|tag: 4|tries: 3",
	} {
		page := inShort("HTTP/1.1 200 OK|" + heads + "||z")
		says().comes(t, page+"z", written[api.Say]{say, page})
	}
	page := inShort("HTTP/1.1 400 Wrong|content-length: 0|error: 3")
	says().comes(t, page, written[api.Say]{api.Say{Kind: api.SayErr, Err: api.ErrRange}, page})
}

// turned looks at each page with each byte turned, left out, and doubled, and with a byte more that means something.
func turned[T any](t *testing.T, x tongue[T]) {
	for _, w := range x.right {
		b := w.page
		for i := range b {
			for c := range 256 {
				x.honest(t, b[:i]+string([]byte{byte(c)})+b[i+1:])
			}
			x.honest(t, b[:i]+b[i+1:])
			for _, c := range []string{b[i : i+1], " ", ": ", "/", "-", "0", "\r", "\n", "\r\n", "\r\n\r\n"} {
				x.honest(t, b[:i]+c+b[i:])
			}
		}
	}
}

func TestAnyByteTurned(t *testing.T) {
	turned(t, asks())
	turned(t, says())
}

// TestAnyHeads looks at each page of up to three heads, or pairs of heads, of a few, behind each first line of a few.
func TestAnyHeads(t *testing.T) {
	heads := []string{
		noBody, "content-length: 3", "content-length: 4", "content-length: 400", "tag: 1", "tag: x", "tries: 2", "tag: 1\r\ntries: 2", "error: 3",
		"p-a: 1", "p-A: !7", "p-a: x", "p-a: $00\r\np-b: !1", "x: ", "x",
	}
	var look func(page string, more int)
	look = func(page string, more int) {
		asks().honest(t, page+"\r\n\r\nzzz")
		says().honest(t, page+"\r\n\r\nzzz")
		if more == 0 {
			return
		}
		for _, h := range heads {
			look(page+"\r\n"+h, more-1)
		}
	}
	for _, first := range []string{"GET /ping HTTP/1.1", "POST /queue/q HTTP/1.1", "GET /none HTTP/1.1", "HTTP/1.1 200 OK", "HTTP/1.1 204 None", "HTTP/1.1 400 Wrong", ""} {
		look(first, 3)
	}
}

// TestAnyPath looks at each path of up to four parts of a few, with each method.
func TestAnyPath(t *testing.T) {
	parts := []string{"", "ping", "queue", "tag", "items", "q", "3", "-3", "03"}
	var look func(line string, more int)
	look = func(line string, more int) {
		asks().honest(t, sheet("", line+" HTTP/1.1", noBody))
		if more == 0 {
			return
		}
		for _, p := range parts {
			look(line+"/"+p, more-1)
		}
	}
	for _, method := range []string{"GET", "PUT", "POST", "DELETE", "get", ""} {
		look(method+" ", 4)
		look(method+" x", 2)
	}
}

func FuzzRead(f *testing.F) {
	for _, w := range askPages() {
		f.Add([]byte(w.page))
	}
	for _, w := range sayPages() {
		f.Add([]byte(w.page))
	}
	f.Fuzz(func(t *testing.T, b []byte) {
		for _, s := range []string{string(b), string(b) + "\r\n\r\n", string(b) + "\r\n" + noBody + "\r\n\r\n"} {
			asks().honest(t, s)
			says().honest(t, s)
		}
	})
}

// readIsOwn: what is read shares nothing with what it was read from.
func readIsOwn[T any](t *testing.T, x tongue[T]) {
	for _, w := range x.right {
		given := withRoom([]byte(w.page), roomByte)
		got, _, _ := x.read(given)
		spoilNote(*x.note(&got))
		if string(given) != w.page || behind(given) != roomByte {
			t.Errorf("%s: what was handed in changed with what was read: %q", x.name, given)
		}
		got, _, _ = x.read(given)
		spoilBytes(given)
		if !x.same(got, w.is) {
			t.Errorf("%s: what was read changed with the bytes: %v", x.name, got)
		}
	}
}

func TestReadSharesNothing(t *testing.T) {
	readIsOwn(t, asks())
	readIsOwn(t, says())
}
