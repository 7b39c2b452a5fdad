package frames_test

import (
	"bytes"
	"strings"
	"testing"

	"trivetgate/api"
	"trivetgate/frames"
	"trivetgate/note"
)

// thereAndBack: whatever follows, what was written is read; with less, more must come.
func thereAndBack[T any](t *testing.T, x tongue[T]) {
	for _, v := range x.right {
		b := x.bytes(v)
		for _, more := range []string{"", "\x00", "\xff\xff", string(b), strings.Repeat("z", 500)} {
			got, k, err := x.read(append(bytes.Clone(b), more...))
			if err != api.OK || k != len(b) || !x.same(got, v) {
				t.Errorf("%s of the bytes of %v, and %q, answers %v, %d, %d", x.name, v, more, got, k, err)
			}
		}
		for k := range b {
			x.refused(t, b[:k], api.ErrMore)
		}
	}
}

// G1 and G2: there, and back.
func TestThereAndBack(t *testing.T) {
	thereAndBack(t, asks())
	thereAndBack(t, says())
}

// The document's seventh example.
func TestNoteThatIsPutComesBack(t *testing.T) {
	a, k, err := frames.Ask(frames.AskBytes(api.Ask{Kind: api.AskPut, Queue: "q", Note: mixed()}))
	if err != api.OK || k == 0 || !note.Same(a.Note, mixed()) {
		t.Errorf("%v comes back, %d, %d", a, k, err)
	}
}

// sizes: what is told by the size alone, whatever is in the frame.
func sizes[T any](t *testing.T, x tongue[T]) {
	tests := []struct {
		name string
		b    string
		want api.Errno
	}{
		{"nothing", "", api.ErrMore},
		{"a byte", "\x00", api.ErrMore},
		{"a byte of a frame that is too long", "\xff", api.ErrMore},
		{"a size alone", "\x00\x07", api.ErrMore},
		{"the largest size alone", "\x01\x8e", api.ErrMore},
		{"the largest size, and all but a byte", "\x01\x8e" + strings.Repeat("z", 397), api.ErrMore},
		{"the largest size, and all", "\x01\x8e" + strings.Repeat("z", 398), api.ErrForm},
		{"a size that is too large", "\x01\x8f", api.ErrMuch},
		{"a size that is too large, and all", "\x01\x8f" + strings.Repeat("z", 399), api.ErrMuch},
		{"a size that is too large by its upper byte", "\x02\x00", api.ErrMuch},
		{"the size that is too large by most", "\xff\xff", api.ErrMuch},
		{"size 0", "\x00\x00", api.ErrForm},
		{"size 0, and more", "\x00\x00\x01\x00\x00\x00\x00\x00\x00", api.ErrForm},
		{"size 1", "\x00\x01\x01", api.ErrForm},
		{"no kind, and it ends", "\x00\x07\xff\xff", api.ErrMore},
	}
	for _, c := range tests {
		t.Run(x.name+" "+c.name, func(t *testing.T) { x.refused(t, []byte(c.b), c.want) })
	}
	x.refused(t, nil, api.ErrMore)
}

// G2: sizes.
func TestSizes(t *testing.T) {
	sizes(t, asks())
	sizes(t, says())
}

// G2: what is wrong with asks, in the order in which it is told.
func TestAskRefuses(t *testing.T) {
	long := strings.Repeat("q", 255)
	tests := []struct {
		name string
		in   string
		want api.Errno
	}{
		{"a kind alone", "\x01", api.ErrForm},
		{"no number", "\x01\x00", api.ErrForm},
		{"three bytes of number", "\x01\x00\x00\x00\x00", api.ErrForm},
		{"five bytes of number", "\x01\x00\x00\x00\x00\x00\x00", api.ErrForm},
		{"a name that takes a byte of the number", "\x03\x02q\x00\x00\x00\x00", api.ErrForm},
		{"a name that leaves a byte", "\x03\x01qq\x00\x00\x00\x00", api.ErrForm},
		{"a name that is longer than all", "\x03\xffq\x00\x00\x00\x00", api.ErrForm},
		{"a note that is not to be there", "\x05\x01q\x00\x00\x00\x00\x00\x00", api.ErrForm},
		{"a note that is not there", "\x04\x01q\x00\x00\x00\x00", api.ErrForm},
		{"a part of a note", "\x04\x01q\x00\x00\x00\x00\x00", api.ErrForm},
		{"a note, and more", "\x04\x01q\x00\x00\x00\x00\x00\x00\x00", api.ErrForm},
		{"two notes", "\x04\x01q\x00\x00\x00\x00" + letterBytes + letterBytes, api.ErrForm},
		{"a wrong note", "\x04\x01q\x00\x00\x00\x00\x01\x01K\x01\x00\x00\x00\x00\x00", api.ErrForm},
		{"a wrong note, a wrong number, and no key", "\x04\x01Q\x00\x00\x00\x01\x05", api.ErrForm},
		{"no kind, with a note", "\x00\x01q\x00\x00\x00\x00\x00\x00", api.ErrForm},
		{"no kind, and no number", "\x0a\x01q", api.ErrForm},
		{"kind 0", "\x00\x00\x00\x00\x00\x00", api.ErrKind},
		{"kind 10, no key, and a number", "\x0a\x01Q\xff\xff\xff\xff", api.ErrKind},
		{"kind 255", "\xff\x00\x00\x00\x00\x00", api.ErrKind},
		{"a name that is not to be there", "\x01\x01q\x00\x00\x00\x00", api.ErrName},
		{"a name that is not there", "\x05\x00\x00\x00\x00\x00", api.ErrName},
		{"no key, and a number", "\x05\x01Q\x00\x00\x00\x01", api.ErrName},
		{"a name of nine", "\x05\x09abcdefghi\x00\x00\x00\x00", api.ErrName},
		{"a name of 255", "\x05\xff" + long + "\x00\x00\x00\x00", api.ErrName},
		{"a name of 255, and a long note", "\x04\xff" + long + "\x00\x00\x00\x00" + string(note.Bytes(largest())), api.ErrName},
		{"a number that is not to be there", "\x01\x00\x00\x00\x00\x01", api.ErrRange},
		{"a number that is not to be there, with a note", "\x04\x01q\x01\x00\x00\x00" + letterBytes, api.ErrRange},
		{"above MaxInt", "\x02\x01q\x40\x00\x00\x01", api.ErrRange},
		{"2^31", "\x02\x01q\x80\x00\x00\x00", api.ErrRange},
		{"-1", "\x02\x01q\xff\xff\xff\xff", api.ErrRange},
		{"a wait of 0", "\x06\x01q\x00\x00\x00\x00", api.ErrRange},
		{"a wait of 10", "\x06\x01q\x00\x00\x00\x0a", api.ErrRange},
		{"tag 0", "\x07\x00\x00\x00\x00\x00", api.ErrRange},
		{"tag -1", "\x08\x00\xff\xff\xff\xff", api.ErrRange},
	}
	for _, c := range tests {
		t.Run(c.name, func(t *testing.T) { asks().refused(t, framed(c.in), c.want) })
	}
}

// G2: what is wrong with answers, in the order in which it is told.
func TestSayRefuses(t *testing.T) {
	tests := []struct {
		name string
		in   string
		want api.Errno
	}{
		{"a kind alone", "\x01", api.ErrForm},
		{"no Err", "\x01\x00\x00\x00\x00\x00", api.ErrForm},
		{"a byte more", "\x01\x00\x00\x00\x00\x00\x00\x00", api.ErrForm},
		{"a note that is not to be there", "\x03\x00\x00\x00\x00\x00\x00\x00\x00", api.ErrForm},
		{"an error with a note", "\x04\x00\x00\x00\x00\x00\x01" + letterBytes, api.ErrForm},
		{"a note that is not there", "\x02\x00\x00\x00\x01\x00\x00", api.ErrForm},
		{"a part of a note", "\x02\x00\x00\x00\x01\x00\x00\x00", api.ErrForm},
		{"a note, and more", "\x02\x00\x00\x00\x01\x00\x00\x00\x00\x00", api.ErrForm},
		{"two notes", "\x02\x00\x00\x00\x01\x00\x00" + letterBytes + letterBytes, api.ErrForm},
		{"a wrong note", "\x02\x00\x00\x00\x01\x00\x00\x01\x01k\x03\x00\x00\x00\x02\x00", api.ErrForm},
		{"a wrong note, and wrong numbers", "\x02\x00\x00\x00\x00\x09\x09\x05", api.ErrForm},
		{"no kind, with a note", "\x05\x00\x00\x00\x01\x00\x00\x00\x00", api.ErrForm},
		{"no kind, and no Err", "\x05\x00\x00\x00\x00\x00", api.ErrForm},
		{"kind 0", "\x00\x00\x00\x00\x00\x00\x00", api.ErrKind},
		{"kind 5, and numbers", "\x05\x00\x00\x00\x01\x01\x01", api.ErrKind},
		{"kind 255", "\xff\x00\x00\x00\x00\x00\x00", api.ErrKind},
		{"tag 0", "\x02\x00\x00\x00\x00\x00\x00" + letterBytes, api.ErrRange},
		{"a tag above MaxInt", "\x02\x40\x00\x00\x01\x00\x00" + letterBytes, api.ErrRange},
		{"tag 2^31", "\x02\x80\x00\x00\x00\x00\x00" + letterBytes, api.ErrRange},
		{"tag -1", "\x02\xff\xff\xff\xff\x00\x00" + letterBytes, api.ErrRange},
		{"four tries", "\x02\x00\x00\x00\x01\x04\x00" + letterBytes, api.ErrRange},
		{"255 tries", "\x02\x00\x00\x00\x01\xff\x00" + letterBytes, api.ErrRange},
		{"an item with an error", "\x02\x00\x00\x00\x01\x00\x01" + letterBytes, api.ErrRange},
		{"a number that is not to be there", "\x01\x00\x00\x00\x01\x00\x00", api.ErrRange},
		{"tries that are not to be there", "\x03\x00\x00\x00\x00\x01\x00", api.ErrRange},
		{"an error that is not to be there", "\x01\x00\x00\x00\x00\x00\x01", api.ErrRange},
		{"an error that is none", "\x04\x00\x00\x00\x00\x00\x00", api.ErrRange},
		{"error 11", "\x04\x00\x00\x00\x00\x00\x0b", api.ErrRange},
		{"error 255", "\x04\x00\x00\x00\x00\x00\xff", api.ErrRange},
	}
	for _, c := range tests {
		t.Run(c.name, func(t *testing.T) { says().refused(t, framed(c.in), c.want) })
	}
}

// G2: whatever is wrong with the note, of the frame it is the form.
func TestWrongNotesAreWrongForms(t *testing.T) {
	for err, notes := range wrongNotes() {
		if err == api.ErrForm {
			continue // what stands in fields that a kind has not is not written
		}
		for _, n := range notes {
			asks().refused(t, frames.AskBytes(api.Ask{Kind: api.AskPut, Queue: "q", Note: n}), api.ErrForm)
			says().refused(t, frames.SayBytes(api.Say{Kind: api.SayItem, N: 1, Note: n}), api.ErrForm)
		}
	}
}

// turned looks at each frame with each byte turned, as it stands, and with so much more or less that the size fits what is there.
func turned[T any](t *testing.T, x tongue[T]) {
	for _, v := range x.right {
		b := x.bytes(v)
		for i := range b {
			for c := range 256 {
				other := bytes.Clone(b)
				other[i] = byte(c)
				x.honest(t, other)
			}
			x.honest(t, framed(string(b[2:max(i, 2)])))
			x.honest(t, framed(string(b[2:])+string(b[:i])))
		}
	}
}

func TestAnyByteTurned(t *testing.T) {
	turned(t, asks())
	turned(t, says())
}

func FuzzRead(f *testing.F) {
	for _, a := range rightAsks() {
		f.Add(frames.AskBytes(a))
	}
	for _, s := range rightSays() {
		f.Add(frames.SayBytes(s))
	}
	f.Fuzz(func(t *testing.T, b []byte) {
		for _, b := range [][]byte{b, framed(string(b[:min(len(b), api.MaxIn)]))} {
			asks().honest(t, b)
			says().honest(t, b)
		}
	})
}

// readIsOwn: what is read shares nothing with what it was read from.
func readIsOwn[T any](t *testing.T, x tongue[T]) {
	for _, v := range x.right {
		b := x.bytes(v)
		given := withRoom(b, roomByte)
		got, _, _ := x.read(given)
		spoilNote(x.noteOf(got))
		if !bytes.Equal(given, b) || behind(given) != roomByte {
			t.Errorf("%s: what was handed in changed with what was read: %q", x.name, given)
		}
		got, _, _ = x.read(given)
		spoilBytes(given)
		if !x.same(got, v) {
			t.Errorf("%s: what was read changed with the bytes: %v", x.name, got)
		}
	}
}

func TestReadSharesNothing(t *testing.T) {
	readIsOwn(t, asks())
	readIsOwn(t, says())
}
