package gate_test

import (
	"math"
	"slices"
	"strings"
	"testing"

	"trivetgate/api"
	"trivetgate/gate"
)

// The document's tenth example.
func TestLineAndPartOfAnother(t *testing.T) {
	want := answer[api.Ask]{all: []api.Ask{{Kind: api.AskPing}}, left: "tak"}
	asks().comes(t, api.TongueLines, "ping\ntak", want)
}

// cuts: of the first bytes of a stream all that are whole are read, and the others are left.
func cuts[T any](t *testing.T, x side[T], tongue int) {
	b, ends := x.stream(tongue)
	for k := range len(b) + 1 {
		whole, end := 0, 0
		for whole < len(ends) && ends[whole] <= k {
			end = ends[whole]
			whole++
		}
		x.comes(t, tongue, b[:k], answer[T]{all: x.rights()[:whole], left: b[end:k]})
	}
}

// J1: one by one, until more must come.
func TestCutAnywhere(t *testing.T) {
	for _, tongue := range tongues {
		cuts(t, asks(), tongue)
		cuts(t, says(), tongue)
	}
}

// pieces: what comes piece by piece, what was left ahead of each, is what comes at once.
func pieces[T any](t *testing.T, x side[T], tongue int) {
	b, _ := x.stream(tongue)
	for size := 1; size <= len(b); size++ {
		var all []T
		var in []byte
		for piece := range slices.Chunk([]byte(b), size) {
			got, left, err := x.all(tongue, append(in, piece...))
			if err != api.OK {
				t.Fatalf("%s: a piece of %d bytes: %d is told", x.name, size, err)
			}
			all, in = append(all, got...), left
		}
		x.check(t, b, answer[T]{all: all, left: string(in)}, answer[T]{all: x.rights()})
	}
}

// However it is cut, however it comes: it is the same, in all tongues.
func TestPieces(t *testing.T) {
	for _, tongue := range tongues {
		pieces(t, asks(), tongue)
		pieces(t, says(), tongue)
	}
}

// J1: until there are most; none, if that is below 1.
func TestMost(t *testing.T) {
	x := asks()
	x.right = append(x.right, x.right...)
	for _, tongue := range tongues {
		b, ends := x.stream(tongue)
		ends = append([]int{0}, ends...)
		for _, most := range []int{math.MinInt, -1, 0, 1, 2, 3, 8, 9, 10, 19, 20, 21, 1 << 32, math.MaxInt} {
			n := min(max(most, 0), len(x.right))
			for _, more := range []string{"", "\x00"} {
				all, left, err := gate.Asks(tongue, []byte(b+more), most)
				x.check(t, b, answer[api.Ask]{all, string(left), err}, answer[api.Ask]{all: x.rights()[:n], left: b[ends[n]:] + more})
			}
		}
	}
}

// J1: what stands behind the last one that is asked for is left unread, whatever it is.
func TestMostAheadOfError(t *testing.T) {
	x := asks()
	for _, tongue := range tongues {
		a := x.right[4]
		b := a.in(tongue) + bad
		for most, want := range []answer[api.Ask]{
			{left: b},
			{all: []api.Ask{a.is}, left: bad},
			{all: []api.Ask{a.is}, left: bad, err: errorOf(tongue)},
		} {
			all, left, err := gate.Asks(tongue, []byte(b), most)
			x.check(t, b, answer[api.Ask]{all, string(left), err}, want)
		}
		for _, most := range []int{0, -1, math.MinInt} {
			all, left, err := gate.Asks(tongue, []byte(bad), most)
			x.check(t, bad, answer[api.Ask]{all, string(left), err}, answer[api.Ask]{left: bad})
		}
	}
}

// bad is wrong in each tongue, and errorOf tells what of it is told.
const bad = "zap zap\n\r\n\r\n"

func errorOf(tongue int) api.Errno {
	return map[int]api.Errno{api.TongueFrames: api.ErrMuch, api.TongueLines: api.ErrKind, api.TongueWeb: api.ErrForm}[tongue]
}

// fault is what is wrong in a tongue, of asks and of answers likewise.
type fault struct {
	tongue int
	b      string
	want   api.Errno
}

func faults() []fault {
	return []fault{
		{api.TongueFrames, "\x00\x00", api.ErrForm},
		{api.TongueFrames, "\x00\x04\x01\x00\x00\x00", api.ErrForm},
		{api.TongueFrames, "\x01\x8f", api.ErrMuch},
		{api.TongueFrames, "zap", api.ErrMuch},
		{api.TongueLines, "\n", api.ErrKind},
		{api.TongueLines, "zap zap\n", api.ErrKind},
		{api.TongueLines, strings.Repeat("z", api.MaxIn), api.ErrMuch},
		{api.TongueLines, strings.Repeat("z", api.MaxIn) + "\n", api.ErrMuch},
		{api.TongueWeb, "x\r\nx\r\n\r\n", api.ErrForm},
		{api.TongueWeb, "x\r\n\r\n", api.ErrForm},
		{api.TongueWeb, "x\r\ncontent-length: 400\r\n\r\n", api.ErrMuch},
		{api.TongueWeb, strings.Repeat("z", api.MaxIn), api.ErrMuch},
	}
}

func askFaults() []fault {
	return append(faults(),
		fault{api.TongueFrames, "\x00\x06\x0a\x00\x00\x00\x00\x00", api.ErrKind},
		fault{api.TongueFrames, "\x00\x06\x03\x00\x00\x00\x00\x00", api.ErrName},
		fault{api.TongueFrames, "\x00\x06\x07\x00\x00\x00\x00\x00", api.ErrRange},
		fault{api.TongueLines, "ping \n", api.ErrForm},
		fault{api.TongueLines, "take Q\n", api.ErrName},
		fault{api.TongueLines, "wait q 10\n", api.ErrRange},
		fault{api.TongueLines, "put q a=$00000000000000000000000000 #\n", api.ErrMuch},
		fault{api.TongueLines, "put q a=1 a=1 a=1 a=1 a=1 #\n", api.ErrMany},
		fault{api.TongueLines, "+ok\n", api.ErrKind},
		fault{api.TongueWeb, askLine("GET /pong"), api.ErrKind},
		fault{api.TongueWeb, askLine("GET /queue/Q"), api.ErrName},
		fault{api.TongueWeb, askLine("POST /tag/0"), api.ErrRange},
	)
}

func sayFaults() []fault {
	return append(faults(),
		fault{api.TongueFrames, "\x00\x07\x05\x00\x00\x00\x00\x00\x00", api.ErrKind},
		fault{api.TongueFrames, "\x00\x07\x04\x00\x00\x00\x00\x00\x0b", api.ErrRange},
		fault{api.TongueLines, "+ok \n", api.ErrForm},
		fault{api.TongueLines, "-11\n", api.ErrRange},
		fault{api.TongueLines, "+item 1 0 A=1 #\n", api.ErrName},
		fault{api.TongueLines, "ping\n", api.ErrKind},
		fault{api.TongueWeb, "HTTP/1.1 200 ok\r\n" + noNotePage, api.ErrKind},
		fault{api.TongueWeb, "HTTP/1.1 400 Wrong\r\nerror: 0\r\n" + noNotePage, api.ErrRange},
		fault{api.TongueWeb, "HTTP/1.1 204 None\r\nerror: 1\r\n" + noNotePage, api.ErrForm},
	)
}

// faulty: however many are ahead of an error, they come, and what is left begins with it; whatever is behind it.
func faulty[T any](t *testing.T, x side[T], l []fault) {
	for _, f := range l {
		ahead := ""
		for n := range len(x.right) + 1 {
			for _, behind := range []string{"", "z", "\r\n\r\n", x.right[0].in(f.tongue)} {
				x.comes(t, f.tongue, ahead+f.b+behind, answer[T]{all: x.rights()[:n], left: f.b + behind, err: f.want})
			}
			if n < len(x.right) {
				ahead += x.right[n].in(f.tongue)
			}
		}
	}
}

// J1, and Z4: those ahead of an error, what is left with it, and it.
func TestErrors(t *testing.T) {
	faulty(t, asks(), askFaults())
	faulty(t, says(), sayFaults())
}

// Each tongue is read by itself: what is right in one is no such thing in another.
func TestOtherTongues(t *testing.T) {
	for _, w := range writtenAsks() {
		for _, is := range tongues {
			for _, as := range tongues {
				all, _, _ := gate.Asks(as, []byte(w.in(is)), 1)
				if (len(all) == 1) != (is == as) {
					t.Errorf("%q, of tongue %d, is read as %v in tongue %d", w.in(is), is, all, as)
				}
			}
		}
	}
}

// Z3: nil is a list without entries, and of nothing nothing comes, and nothing is left.
func TestNothing(t *testing.T) {
	for _, tongue := range tongues {
		for _, b := range [][]byte{nil, {}} {
			all, left, err := gate.Asks(tongue, b, 1)
			says, rest, bad := gate.Says(tongue, b)
			if err != api.OK || bad != api.OK || len(all)+len(left)+len(says)+len(rest) > 0 {
				t.Errorf("of nothing %v, %q, %d, and %v, %q, %d come", all, left, err, says, rest, bad)
			}
		}
	}
}

// many: very many ones come all, and soon enough.
func many[T any](t *testing.T, x side[T]) {
	const n = 70000
	for _, tongue := range tongues {
		w := x.right[0]
		b := []byte(strings.Repeat(w.in(tongue), n) + "\x00")
		all, left, err := x.all(tongue, b)
		if err != api.OK || len(all) != n || !x.same(all[n-1], w.is) || string(left) != "\x00" {
			t.Errorf("%s: %d of %d come, %q is left, %d is told", x.name, len(all), n, left, err)
		}
	}
}

func TestVeryMany(t *testing.T) {
	many(t, asks())
	many(t, says())
}

// allIsOwn: nothing that is answered changes with what was handed in, nor with what else is answered, nor with another answer.
func allIsOwn[T any](t *testing.T, x side[T], tongue int, end string, told api.Errno) {
	b, _ := x.stream(tongue)
	given := withRoom([]byte(b+end), roomByte)
	other, rest, _ := x.all(tongue, given)
	all, left, err := x.all(tongue, given)
	spoilBytes(rest)
	for k := range other {
		spoilNote(*x.note(&other[k]))
	}
	if string(given) != b+end || behind(given) != roomByte {
		t.Errorf("%s: what was handed in changed with what was answered: %q", x.name, given)
	}
	spoilBytes(given)
	x.check(t, b, answer[T]{all, string(left), err}, answer[T]{x.rights(), end, told})
	for k := range all {
		spoilNote(*x.note(&all[k]))
		x.check(t, b, answer[T]{all[k+1:], string(left), err}, answer[T]{x.rights()[k+1:], end, told})
	}
}

// Z2: also what is left is new memory, whether more must come, or it is wrong.
func TestSharesNothing(t *testing.T) {
	for _, tongue := range tongues {
		for end, told := range map[string]api.Errno{"": api.OK, "\x00": api.OK, bad: errorOf(tongue)} {
			allIsOwn(t, asks(), tongue, end, told)
			allIsOwn(t, says(), tongue, end, told)
		}
	}
}

// model reads all by the tongue's own package, from the end of what it read on.
func (x side[T]) model(tongue int, b []byte, most int) answer[T] {
	if most < 1 {
		return answer[T]{left: string(b)}
	}
	one, size, err := x.first[tongue-api.TongueFrames](b)
	switch err {
	case api.OK:
		more := x.model(tongue, b[size:], most-1)
		return answer[T]{append([]T{one}, more.all...), more.left, more.err}
	case api.ErrMore:
		return answer[T]{left: string(b)}
	}
	return answer[T]{left: string(b), err: err}
}

// honest: b is answered as the model has it.
func (x side[T]) honest(t *testing.T, tongue int, b []byte) {
	t.Helper()
	x.comes(t, tongue, string(b), x.model(tongue, b, math.MaxInt))
}

// turned looks at a stream with each byte turned.
func turned[T any](t *testing.T, x side[T], tongue int) {
	b, _ := x.stream(tongue)
	for k := range len(b) {
		for _, c := range []byte{0, 1, ' ', '\n', '\r', '/', '0', '1', 'q', 'z', b[k] ^ 1, b[k] ^ 0x80} {
			s := []byte(b)
			s[k] = c
			x.honest(t, tongue, s)
		}
	}
}

func TestAnyByteTurned(t *testing.T) {
	for _, tongue := range tongues {
		turned(t, asks(), tongue)
		turned(t, says(), tongue)
	}
}

func FuzzAll(f *testing.F) {
	for _, tongue := range tongues {
		for _, x := range writtenAsks() {
			f.Add([]byte("\x00\x00"+x.in(tongue)), 3)
		}
		b, _ := asks().stream(tongue)
		f.Add([]byte(b), 5)
		b, _ = says().stream(tongue)
		f.Add([]byte(b), 0)
	}
	f.Fuzz(func(t *testing.T, b []byte, most int) {
		for _, tongue := range tongues {
			asks().honest(t, tongue, b)
			says().honest(t, tongue, b)
			all, left, err := gate.Asks(tongue, b, most)
			x := asks()
			x.check(t, string(b), answer[api.Ask]{all, string(left), err}, x.model(tongue, b, most))
		}
	})
}
