package note_test

import (
	"bytes"
	"reflect"
	"strings"
	"testing"

	"trivetgate/api"
	"trivetgate/note"
)

var sampleBytes = []byte{3,
	1, 'a', 1, 255, 255, 255, 249,
	2, 'b', 'c', 2, 3, 'x', 0, 255,
	1, 'a', 3, 0, 0, 0, 1,
	3, 'b', '\r', '\n'}

// largest is a right note with as much as may be in it.
func largest() api.Note {
	n := api.Note{Body: bytes.Repeat([]byte{0xFF}, api.MaxBody)}
	for range api.MaxProps {
		n.Props = append(n.Props, api.Prop{Key: "abcdefgh", Kind: api.PropText, Text: strings.Repeat("\xff", api.MaxText)})
	}
	return n
}

func rightNotes() []api.Note {
	return []api.Note{
		{},
		sample(),
		largest(),
		withProp("a", api.PropInt, api.MaxInt, ""),
		withProp("a", api.PropInt, -api.MaxInt, ""),
		withProp("a", api.PropText, 0, ""),
		withProp("z", api.PropFlag, 0, ""),
		{Body: []byte{0}},
	}
}

// A2: Bytes.
func TestBytes(t *testing.T) {
	tests := []struct {
		n    api.Note
		want []byte
	}{
		{api.Note{}, []byte{0, 0}},
		{api.Note{Props: []api.Prop{}, Body: []byte{}}, []byte{0, 0}},
		{api.Note{Body: []byte{7, 0}}, []byte{0, 2, 7, 0}},
		{sample(), sampleBytes},
		{withProp("k", api.PropInt, 0x12345678, ""), []byte{1, 1, 'k', 1, 0x12, 0x34, 0x56, 0x78, 0}},
		{withProp("k", api.PropInt, -1, ""), []byte{1, 1, 'k', 1, 255, 255, 255, 255, 0}},
		{withProp("k", api.PropInt, api.MaxInt, ""), []byte{1, 1, 'k', 1, 64, 0, 0, 0, 0}},
		{withProp("k", api.PropInt, -api.MaxInt, ""), []byte{1, 1, 'k', 1, 192, 0, 0, 0, 0}},
		{withProp("k", api.PropText, 0, ""), []byte{1, 1, 'k', 2, 0, 0}},
		{withProp("k", api.PropFlag, 0, ""), []byte{1, 1, 'k', 3, 0, 0, 0, 0, 0}},
	}
	for _, c := range tests {
		given := roomy(c.n)
		if got := note.Bytes(given); !bytes.Equal(got, c.want) {
			t.Errorf("Bytes(%v) is %v, not %v", c.n, got, c.want)
		}
		checkRoom(t, given)
	}
	if n := len(note.Bytes(largest())); n != 1+4*(1+8+1+1+12)+1+40 {
		t.Errorf("the largest note has %d bytes", n)
	}
}

// The document's first example.
func TestBytesOfAPropertyAndTwoBytesOfBody(t *testing.T) {
	n := withProp("a", api.PropInt, 5, "")
	n.Body = []byte("ab")
	if got := len(note.Bytes(n)); got != 11 {
		t.Errorf("%d bytes, not 11", got)
	}
}

func TestBytesSharesNothing(t *testing.T) {
	given := roomy(sample())
	b := note.Bytes(given)
	for i := range b {
		b[i]++
	}
	_ = append(b, 1)
	checkRoom(t, given)
	if !reflect.DeepEqual(given, sample()) {
		t.Errorf("what was handed in changed with its bytes: %v", given)
	}
}

// refused: Parse tells want, and nothing beside it.
func refused(t *testing.T, b []byte, want api.Errno) {
	t.Helper()
	n, k, err := note.Parse(b)
	if err != want {
		t.Errorf("Parse(%v) tells %d, not %d", b, err, want)
	}
	if k != 0 || len(n.Props) != 0 || len(n.Body) != 0 {
		t.Errorf("Parse(%v) answers %v and %d beside an error", b, n, k)
	}
}

// A2: there, and back, whatever follows.
func TestParseThereAndBack(t *testing.T) {
	for _, n := range rightNotes() {
		b := note.Bytes(n)
		for _, more := range []string{"", "\x00", "\x05", "more\xff"} {
			got, k, err := note.Parse(append(append([]byte{}, b...), more...))
			if err != api.OK || k != len(b) || !note.Same(got, n) {
				t.Errorf("Parse of the bytes of %v, and %q, answers %v, %d, %d", n, more, got, k, err)
			}
		}
	}
}

// A2: ErrMore, wherever b ends; what stands behind its end is not looked at.
func TestParseEndsTooSoon(t *testing.T) {
	refused(t, nil, api.ErrMore)
	refused(t, []byte{}, api.ErrMore)
	for _, n := range rightNotes() {
		b := note.Bytes(n)
		for k := range b {
			refused(t, b[:k], api.ErrMore)
		}
	}
}

// A2: the order in which errors are told.
func TestParseRefuses(t *testing.T) {
	long := func(head []byte, n int, tail ...byte) []byte {
		return append(append(append([]byte{}, head...), make([]byte, n)...), tail...)
	}
	tests := []struct {
		name string
		b    []byte
		want api.Errno
	}{
		{"too many, and nothing more", []byte{api.MaxProps + 1}, api.ErrMany},
		{"very many, and nothing more", []byte{255}, api.ErrMany},
		{"as many as may be, and nothing more", []byte{api.MaxProps}, api.ErrMore},
		{"no key, and it ends", []byte{1, 0, 9, 0, 0, 0}, api.ErrMore},
		{"no body", []byte{1, 1, 'A', 9, 0, 0, 0, 0}, api.ErrMore},
		{"a wrong property, and the body ends", []byte{1, 0, 9, 0, 0, 0, 0, 2, 0}, api.ErrMore},
		{"a wrong property, and the next one ends", []byte{2, 0, 9, 0, 0, 0, 0, 1}, api.ErrMore},
		{"an empty key", []byte{1, 0, 1, 0, 0, 0, 0, 0}, api.ErrName},
		{"a key that is none", []byte{1, 1, 'A', 9, 0, 0, 0, 0, 0}, api.ErrName},
		{"a key that is too long", []byte{1, 9, 'a', 'a', 'a', 'a', 'a', 'a', 'a', 'a', 'a', 1, 0, 0, 0, 0, 0}, api.ErrName},
		{"a very long key", long([]byte{1, 255}, 255, 1, 0, 0, 0, 0, 0), api.ErrName},
		{"kind 0 has N", []byte{1, 1, 'a', 0, 0, 0, 0, 0, 0}, api.ErrKind},
		{"kind 4 has N", []byte{1, 1, 'a', 4, 255, 255, 255, 255, 0}, api.ErrKind},
		{"kind 255 has N", []byte{1, 1, 'a', 255, 0, 0, 0, 0, 0}, api.ErrKind},
		{"kind 4 without all of N", []byte{1, 1, 'a', 4, 0, 0, 0}, api.ErrMore},
		{"above MaxInt", []byte{1, 1, 'a', 1, 64, 0, 0, 1, 0}, api.ErrRange},
		{"2^31 - 1", []byte{1, 1, 'a', 1, 127, 255, 255, 255, 0}, api.ErrRange},
		{"-2^31", []byte{1, 1, 'a', 1, 128, 0, 0, 0, 0}, api.ErrRange},
		{"below -MaxInt", []byte{1, 1, 'a', 1, 191, 255, 255, 255, 0}, api.ErrRange},
		{"a flag of 2", []byte{1, 1, 'a', 3, 0, 0, 0, 2, 0}, api.ErrRange},
		{"a flag of 2^24", []byte{1, 1, 'a', 3, 1, 0, 0, 0, 0}, api.ErrRange},
		{"a flag of -1", []byte{1, 1, 'a', 3, 255, 255, 255, 255, 0}, api.ErrRange},
		{"a long text", long([]byte{1, 1, 'a', 2, api.MaxText + 1}, api.MaxText+1, 0), api.ErrMuch},
		{"a very long text", long([]byte{1, 1, 'a', 2, 255}, 255, 0), api.ErrMuch},
		{"a long text that ends", long([]byte{1, 1, 'a', 2, 255}, 254), api.ErrMore},
		{"a long body", long([]byte{0, api.MaxBody + 1}, api.MaxBody+1), api.ErrMuch},
		{"a very long body", long([]byte{0, 255}, 255), api.ErrMuch},
		{"a long body that ends", long([]byte{0, 255}, 254), api.ErrMore},
		{"a wrong property ahead of a long body", long([]byte{1, 1, 'a', 0, 0, 0, 0, 0, 255}, 255), api.ErrKind},
		{"the first one of two wrong properties", []byte{2, 1, 'a', 3, 0, 0, 0, 2, 0, 1, 0, 0, 0, 0, 0}, api.ErrRange},
	}
	for _, c := range tests {
		t.Run(c.name, func(t *testing.T) { refused(t, c.b, c.want) })
	}
}

// honest: what Parse answers is just so written, or an error and nothing beside it; b is only read.
func honest(t *testing.T, b []byte) {
	t.Helper()
	room := append(append([]byte{}, b...), 0xAA)
	given := room[:len(b)]
	n, k, err := note.Parse(given)
	if !bytes.Equal(given, b) || room[len(b)] != 0xAA {
		t.Errorf("Parse(%v) changed what it was handed", b)
	}
	if err != api.OK {
		refused(t, b, err)
		return
	}
	if k < 2 || k > len(b) || note.Wrong(n) != api.OK || !bytes.Equal(note.Bytes(n), b[:k]) {
		t.Errorf("Parse(%v) answers %v, %d", b, n, k)
	}
}

func TestParseOfAnyByteTurned(t *testing.T) {
	for _, n := range rightNotes() {
		b := note.Bytes(n)
		for i := range b {
			for c := range 256 {
				turned := append([]byte{}, b...)
				turned[i] = byte(c)
				honest(t, turned)
			}
		}
	}
}

func FuzzParse(f *testing.F) {
	for _, n := range rightNotes() {
		f.Add(note.Bytes(n))
	}
	f.Fuzz(honest)
}

func TestParseSharesNothing(t *testing.T) {
	b := append(append([]byte{}, sampleBytes...), 0xAA)
	given := b[:len(sampleBytes)]
	n, _, _ := note.Parse(given)
	n.Body[0] = 'z'
	_ = append(n.Body, 1)
	if !bytes.Equal(given, sampleBytes) || b[len(sampleBytes)] != 0xAA {
		t.Errorf("what was handed in changed with the note: %v", b)
	}
	n, _, _ = note.Parse(given)
	clear(b)
	if !reflect.DeepEqual(n, sample()) {
		t.Errorf("the note changed with what it was read from: %v", n)
	}
}

// Z1: of wrong notes nothing is promised of Bytes, but that it answers.
func TestBytesOfWrongNotesAnswers(t *testing.T) {
	for _, n := range []api.Note{
		withProp("", -1, -1<<63, ""),
		withProp(strings.Repeat("k", 300), api.PropText, 0, strings.Repeat("x", 300)),
		{Props: make([]api.Prop, 300), Body: make([]byte, 300)},
	} {
		note.Bytes(n)
	}
}
