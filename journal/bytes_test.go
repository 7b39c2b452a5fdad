package journal_test

import (
	"bytes"
	"strings"
	"testing"

	"trivetgate/api"
	"trivetgate/journal"
	"trivetgate/note"
)

// E1: Bytes.
func TestBytes(t *testing.T) {
	tests := []struct {
		e    api.Entry
		want string
	}{
		{makeOf("a", 3), "\x01\x01a\x03"},
		{makeOf("", 0), "\x01\x00\x00"},
		{makeOf("work", 255), "\x01\x04work\xff"},
		{makeOf(longest, 1), "\x01\x64" + longest + "\x01"},
		{dropOf("a"), "\x02\x01a"},
		{dropOf(""), "\x02\x00"},
		{putOf("a", 4, api.Note{Body: []byte("x")}), "\x03\x01a\x00\x00\x00\x04\x00\x01x"},
		{putOf("", 0, api.Note{}), "\x03\x00\x00\x00\x00\x00\x00\x00"},
		{putOf("bc", 0x0A0B0C, letter('z')), "\x03\x02bc\x00\x0a\x0b\x0c\x01\x01k\x02\x01z\x02zz"},
		{goneOf("a", 1000000), "\x04\x01a\x00\x0f\x42\x40"},
		{goneOf("", 0), "\x04\x00\x00\x00\x00\x00"},
	}
	for _, c := range tests {
		if got := journal.Bytes(roomyEntry(c.e)); string(got) != c.want {
			t.Errorf("Bytes(%v) is %q, not %q", c.e, got, c.want)
		}
	}
}

// Z5: fields that a kind has not mean nothing.
func TestBytesOfStrayFields(t *testing.T) {
	full := api.Entry{Queue: "q", N: 7, ID: 8, Note: letter('n')}
	for kind, want := range map[int]string{
		api.EnMake: "\x01\x01q\x07",
		api.EnDrop: "\x02\x01q",
		api.EnPut:  "\x03\x01q\x00\x00\x00\x08\x01\x01k\x02\x01n\x02nn",
		api.EnGone: "\x04\x01q\x00\x00\x00\x08",
	} {
		full.Kind = kind
		if got := journal.Bytes(full); string(got) != want {
			t.Errorf("Bytes(%v) is %q, not %q", full, got, want)
		}
	}
}

func TestBytesSharesNothing(t *testing.T) {
	for _, e := range entries() {
		given := roomyEntry(e)
		b := journal.Bytes(given)
		want := string(b)
		spoilBytes(b)
		checkNoteRoom(t, given.Note)
		checkEntries(t, []api.Entry{given}, []api.Entry{e})
		b = journal.Bytes(given)
		spoilNote(given.Note)
		if string(b) != want {
			t.Errorf("the bytes of %v changed with it: %q, not %q", e, b, want)
		}
	}
}

// Z1: of what is no entry nothing is promised of Bytes, but that it answers.
func TestBytesOfNoEntriesAnswers(t *testing.T) {
	for _, e := range []api.Entry{
		{},
		{Kind: -1, Queue: strings.Repeat("q", 300)},
		{Kind: 1 << 40, N: -5},
		makeOf("a", -1),
		makeOf("a", 1<<62),
		putOf("a", -1<<63, api.Note{Props: make([]api.Prop, 300), Body: make([]byte, 300)}),
		goneOf(strings.Repeat("q", 70000), -1),
	} {
		journal.Bytes(e)
	}
}

// refused: Parse tells want, and nothing beside it.
func refused(t *testing.T, b []byte, want api.Errno) {
	t.Helper()
	e, err := journal.Parse(b)
	if err != want {
		t.Errorf("Parse(%q) tells %d, not %d", b, err, want)
	}
	if !sameEntry(e, api.Entry{}) {
		t.Errorf("Parse(%q) answers %v beside an error", b, e)
	}
}

// E1: there, and back; with less, or with more, it is no entry.
func TestParseThereAndBack(t *testing.T) {
	for _, e := range entries() {
		b := journal.Bytes(e)
		got, err := journal.Parse(withRoom(b, roomByte))
		if err != api.OK || !sameEntry(got, e) {
			t.Errorf("Parse of the bytes of %v answers %v, %d", e, got, err)
		}
		for k := range b {
			refused(t, b[:k], api.ErrForm)
		}
		refused(t, append(bytes.Clone(b), 0), api.ErrForm)
		refused(t, append(bytes.Clone(b), b...), api.ErrForm)
	}
}

// E1: what is wrong, in the order in which it is told.
func TestParseRefuses(t *testing.T) {
	tests := []struct {
		name string
		b    string
		want api.Errno
	}{
		{"nothing", "", api.ErrForm},
		{"a kind alone", "\x02", api.ErrForm},
		{"no kind, alone", "\x00", api.ErrForm},
		{"no kind, and the name ends", "\x05\x02a", api.ErrForm},
		{"no kind, and no name at all", "\xff\xff", api.ErrForm},
		{"the name ends", "\x02\x02a", api.ErrForm},
		{"a name of 255 ends", "\x02\xff" + strings.Repeat("a", 254), api.ErrForm},
		{"kind 0", "\x00\x00", api.ErrKind},
		{"kind 5", "\x05\x00", api.ErrKind},
		{"kind 255", "\xff\x01a", api.ErrKind},
		{"kind 0 with more", "\x00\x01a\x00\x00\x00\x00", api.ErrKind},
		{"kind 5 with more", "\x05\x01a\x01\x02\x03", api.ErrKind},
		{"a queue without its limit", "\x01\x01a", api.ErrForm},
		{"a queue with two limits", "\x01\x01a\x00\x01", api.ErrForm},
		{"a queue that goes, and more", "\x02\x01a\x00", api.ErrForm},
		{"an item without a number", "\x03\x01a", api.ErrForm},
		{"an item with three bytes of number", "\x03\x01a\x00\x00\x01", api.ErrForm},
		{"an item without a note", "\x03\x01a\x00\x00\x00\x01", api.ErrForm},
		{"an item with a part of a note", "\x03\x01a\x00\x00\x00\x01\x00", api.ErrForm},
		{"a note with too many properties", "\x03\x01a\x00\x00\x00\x01\x05", api.ErrForm},
		{"a note with a key that is none", "\x03\x00\x00\x00\x00\x01\x01\x01K\x01\x00\x00\x00\x00\x00", api.ErrForm},
		{"a note with a property of no kind", "\x03\x00\x00\x00\x00\x01\x01\x01k\x04\x00\x00\x00\x00\x00", api.ErrForm},
		{"a note with a flag of 2", "\x03\x00\x00\x00\x00\x01\x01\x01k\x03\x00\x00\x00\x02\x00", api.ErrForm},
		{"a note with a long body", "\x03\x00\x00\x00\x00\x01\x00\x29" + strings.Repeat("b", 41), api.ErrForm},
		{"a note, and more", "\x03\x01a\x00\x00\x00\x01\x00\x00\x00", api.ErrForm},
		{"an item that goes without a number", "\x04\x01a", api.ErrForm},
		{"an item that goes with three bytes of number", "\x04\x01a\x00\x00\x01", api.ErrForm},
		{"an item that goes with five bytes of number", "\x04\x01a\x00\x00\x00\x00\x01", api.ErrForm},
		{"an item that goes with a note", "\x04\x01a\x00\x00\x00\x01\x00\x00", api.ErrForm},
	}
	for _, c := range tests {
		t.Run(c.name, func(t *testing.T) { refused(t, []byte(c.b), c.want) })
	}
}

// Names and numbers are asked for nothing but that they are written so.
func TestParseOfLongNamesAndLargeNumbers(t *testing.T) {
	name := strings.Repeat("\x00", 255)
	for b, want := range map[string]api.Entry{
		"\x02\xff" + name:          dropOf(name),
		"\x04\x00\x00\x0f\x42\x41": goneOf("", 1000001),
		"\x04\x00\xff\xff\xff\xff": goneOf("", 1<<32-1),
		"\x04\x00\x80\x00\x00\x00": goneOf("", 1<<31),
	} {
		if got, err := journal.Parse([]byte(b)); err != api.OK || !sameEntry(got, want) {
			t.Errorf("Parse(%q) answers %v, %d, not %v", b, got, err, want)
		}
	}
}

// honest: what Parse answers is just so written, or an error and nothing beside it; b is only read.
func honest(t *testing.T, b []byte) {
	t.Helper()
	given := withRoom(b, roomByte)
	e, err := journal.Parse(given)
	if !bytes.Equal(given, b) || behind(given) != roomByte {
		t.Errorf("Parse(%q) changed what it was handed", b)
	}
	switch {
	case err == api.ErrForm || err == api.ErrKind:
		refused(t, b, err)
	case err != api.OK:
		t.Errorf("Parse(%q) tells %d", b, err)
	case e.Kind < api.EnMake || e.Kind > api.EnGone || note.Wrong(e.Note) != api.OK || !bytes.Equal(journal.Bytes(e), b):
		t.Errorf("Parse(%q) answers %v", b, e)
	}
}

func TestParseOfAnyByteTurned(t *testing.T) {
	for _, e := range entries() {
		b := journal.Bytes(e)
		for i := range b {
			for c := range 256 {
				turned := bytes.Clone(b)
				turned[i] = byte(c)
				honest(t, turned)
			}
		}
	}
}

func FuzzParse(f *testing.F) {
	for _, e := range entries() {
		f.Add(journal.Bytes(e))
	}
	f.Fuzz(honest)
}

func TestParseSharesNothing(t *testing.T) {
	want := putOf("ab", 9, letter('x'))
	b := journal.Bytes(want)
	given := withRoom(b, roomByte)
	e, _ := journal.Parse(given)
	spoilNote(e.Note)
	if !bytes.Equal(given, b) || behind(given) != roomByte {
		t.Errorf("what was handed in changed with the entry: %q", given)
	}
	e, _ = journal.Parse(given)
	spoilBytes(given)
	checkEntries(t, []api.Entry{e}, []api.Entry{want})
}
