package web_test

import (
	"bytes"
	"math"
	"strconv"
	"strings"
	"testing"

	"trivetgate/api"
	"trivetgate/web"
)

// pagesAre: what is right is written as it must be.
func pagesAre[T any](t *testing.T, x tongue[T]) {
	for _, w := range x.right {
		if got := x.bytes(w.is); string(got) != w.page {
			t.Errorf("%s: the bytes of %v are %q, not %q", x.name, w.is, got, w.page)
		}
	}
}

// I1: AskBytes and SayBytes.
func TestBytes(t *testing.T) {
	pagesAre(t, asks())
	pagesAre(t, says())
}

// I1: each error has a page of its own.
func TestErrors(t *testing.T) {
	for n := 1; n <= 10; n++ {
		want := sheet("", "HTTP/1.1 400 Wrong", "error: "+strconv.Itoa(n), noBody)
		s := api.Say{Kind: api.SayErr, Err: api.Errno(n)}
		if got := web.SayBytes(s); string(got) != want {
			t.Errorf("the bytes of %v are %q, not %q", s, got, want)
		}
		says().comes(t, want, written[api.Say]{s, want})
	}
}

// I1: content-length tells of each body how many bytes it has.
func TestBodies(t *testing.T) {
	for n := range api.MaxBody + 1 {
		body := strings.Repeat("\r", n)
		a := api.Ask{Kind: api.AskPut, Queue: "q", Note: api.Note{Body: []byte(body)}}
		want := "POST /queue/q HTTP/1.1\r\ncontent-length: " + strconv.Itoa(n) + "\r\n\r\n" + body
		if got := web.AskBytes(a); string(got) != want {
			t.Errorf("the bytes of %v are %q, not %q", a, got, want)
		}
		asks().comes(t, want+"\n\r\n", written[api.Ask]{a, want})
	}
}

// The document's ninth example.
func TestPropertyOfText(t *testing.T) {
	n := api.Note{Props: []api.Prop{{Key: "k", Kind: api.PropText, Text: "a b"}}}
	a := api.Ask{Kind: api.AskPut, Queue: "q", Note: n}
	page := sheet("", "POST /queue/q HTTP/1.1", "p-k: $612062", noBody)
	if got := web.AskBytes(a); string(got) != page {
		t.Errorf("the bytes of %v are %q", a, got)
	}
	asks().comes(t, page, written[api.Ask]{a, page})
}

// I1: the longest pages that notes allow (chapter 1) fit in MaxIn bytes: each of them can be read.
func TestLongestFit(t *testing.T) {
	const noteSize = 4*(2+8+2+1+24+2) + 20 + 2 + 40
	ask := web.AskBytes(api.Ask{Kind: api.AskPut, Queue: "abcdefgh", Note: largest()})
	if len(ask) != 31+noteSize || len(ask) > api.MaxIn {
		t.Errorf("the longest ask has %d bytes", len(ask))
	}
	say := web.SayBytes(api.Say{Kind: api.SayItem, N: api.MaxInt, M: api.MaxTries, Note: largest()})
	if len(say) != 17+17+10+noteSize || len(say) > api.MaxIn {
		t.Errorf("the longest answer has %d bytes", len(say))
	}
}

// bytesAreOwn: what is written is new memory, and what was handed in is only read.
func bytesAreOwn[T any](t *testing.T, x tongue[T]) {
	for _, w := range x.right {
		given := w.is
		n := x.note(&given)
		*n = roomyNote(*x.note(&w.is))
		b := x.bytes(given)
		other := x.bytes(given)
		checkOnlyRead(t, *n, *x.note(&w.is))
		sharesNothing(t, b, other)
		spoilBytes(other)
		checkOnlyRead(t, *n, *x.note(&w.is))
		spoilNote(*n)
		if string(b) != w.page {
			t.Errorf("%s: the bytes of %v changed with it: %q", x.name, w.is, b)
		}
	}
}

func TestBytesShareNothing(t *testing.T) {
	bytesAreOwn(t, asks())
	bytesAreOwn(t, says())
}

// Z1: of wrong ones nothing is promised, but that they are answered, and soon enough.
func TestBytesOfWrongOnesAnswer(t *testing.T) {
	long := api.Note{Props: make([]api.Prop, 70000), Body: make([]byte, 70000)}
	for _, kind := range []int{0, -1, api.AskPut, api.SayItem, api.SayErr, 10, 256, math.MaxInt, math.MinInt} {
		for _, n := range []int{-1, 1 << 32, math.MaxInt, math.MinInt} {
			a := api.Ask{Kind: kind, Queue: strings.Repeat("q/ ", 70000), N: n, Note: long}
			s := api.Say{Kind: kind, N: n, M: n, Err: api.Errno(n), Note: long}
			if !bytes.Equal(web.AskBytes(a), web.AskBytes(a)) || !bytes.Equal(web.SayBytes(s), web.SayBytes(s)) {
				t.Errorf("kind %d, and %d, are answered now so, now so", kind, n)
			}
		}
	}
}
