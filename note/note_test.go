package note_test

import (
	"math"
	"reflect"
	"strings"
	"testing"

	"trivetgate/api"
	"trivetgate/note"
)

func sample() api.Note {
	return api.Note{
		Props: []api.Prop{
			{Key: "a", Kind: api.PropInt, N: -7},
			{Key: "bc", Kind: api.PropText, Text: "x\x00\xff"},
			{Key: "a", Kind: api.PropFlag, N: 1},
		},
		Body: []byte("b\r\n"),
	}
}

func withProp(key string, kind, n int, text string) api.Note {
	return api.Note{Props: []api.Prop{{Key: key, Kind: kind, N: n, Text: text}}}
}

// roomy answers n in lists that have spare room, filled with what nobody may look at or change.
func roomy(n api.Note) api.Note {
	props := append(append([]api.Prop{}, n.Props...), api.Prop{Key: "room", Kind: 9})
	body := append(append([]byte{}, n.Body...), 0xAA)
	return api.Note{Props: props[:len(n.Props)], Body: body[:len(n.Body)]}
}

func checkRoom(t *testing.T, n api.Note) {
	t.Helper()
	prop := n.Props[:len(n.Props)+1][len(n.Props)]
	if prop != (api.Prop{Key: "room", Kind: 9}) {
		t.Errorf("the spare room behind the properties was changed: %v", prop)
	}
	if c := n.Body[:len(n.Body)+1][len(n.Body)]; c != 0xAA {
		t.Errorf("the spare room behind the body was changed: %v", c)
	}
}

// A1: Own.
func TestOwnIsACopy(t *testing.T) {
	for _, n := range []api.Note{{}, sample(), withProp("NO KEY", -5, math.MinInt, "x"), {Props: make([]api.Prop, 9), Body: make([]byte, 300)}} {
		given := roomy(n)
		c := note.Own(given)
		checkRoom(t, given)
		if len(c.Props) != len(n.Props) || len(c.Body) != len(n.Body) {
			t.Fatalf("Own has %d properties and %d bytes, not %d and %d", len(c.Props), len(c.Body), len(n.Props), len(n.Body))
		}
		for i := range c.Props {
			if c.Props[i] != n.Props[i] {
				t.Errorf("property %d is %v, not %v", i, c.Props[i], n.Props[i])
			}
		}
		if string(c.Body) != string(n.Body) {
			t.Errorf("the body is %v, not %v", c.Body, n.Body)
		}
	}
}

func TestOwnSharesNothing(t *testing.T) {
	given := roomy(sample())
	c := note.Own(given)
	given.Props[0].N, given.Body[0] = 5, 'z'
	if !reflect.DeepEqual(c, sample()) {
		t.Errorf("the copy changed with what it is a copy of: %v", c)
	}
	given = roomy(sample())
	c = note.Own(given)
	c.Props[0].N, c.Body[0] = 5, 'z'
	_ = append(c.Props, api.Prop{Key: "more"})
	_ = append(c.Body, 1)
	checkRoom(t, given)
	if !reflect.DeepEqual(given, sample()) {
		t.Errorf("what was handed in changed with its copy: %v", given)
	}
	empty := roomy(api.Note{})
	c = note.Own(empty)
	_ = append(c.Props, api.Prop{Key: "more"})
	_ = append(c.Body, 1)
	checkRoom(t, empty)
}

// A1: Same.
func TestSame(t *testing.T) {
	change := func(f func(n *api.Note)) api.Note {
		n := sample()
		f(&n)
		return n
	}
	tests := []struct {
		name string
		a, b api.Note
		want bool
	}{
		{"alike", sample(), sample(), true},
		{"with other spare room", roomy(sample()), sample(), true},
		{"nil and empty", api.Note{}, api.Note{Props: []api.Prop{}, Body: []byte{}}, true},
		{"wrong ones", withProp("", 9, 1, "x"), withProp("", 9, 1, "x"), true},
		{"something and nothing", sample(), api.Note{}, false},
		{"key", sample(), change(func(n *api.Note) { n.Props[1].Key = "bd" }), false},
		{"kind", sample(), change(func(n *api.Note) { n.Props[2].Kind = api.PropInt }), false},
		{"N", sample(), change(func(n *api.Note) { n.Props[0].N = 7 }), false},
		{"N of a text", sample(), change(func(n *api.Note) { n.Props[1].N = 7 }), false},
		{"text", sample(), change(func(n *api.Note) { n.Props[1].Text = "x\x00\xfe" }), false},
		{"text of a flag", sample(), change(func(n *api.Note) { n.Props[2].Text = "x" }), false},
		{"a property fewer", sample(), change(func(n *api.Note) { n.Props = n.Props[:2] }), false},
		{"other order", sample(), change(func(n *api.Note) { n.Props[0], n.Props[2] = n.Props[2], n.Props[0] }), false},
		{"body", sample(), change(func(n *api.Note) { n.Body[2] = '\r' }), false},
		{"a shorter body", sample(), change(func(n *api.Note) { n.Body = n.Body[:2] }), false},
		{"no body", sample(), change(func(n *api.Note) { n.Body = nil }), false},
	}
	for _, c := range tests {
		if note.Same(c.a, c.b) != c.want || note.Same(c.b, c.a) != c.want {
			t.Errorf("%s: Same is %v and %v, not %v", c.name, note.Same(c.a, c.b), note.Same(c.b, c.a), c.want)
		}
	}
}

// A1: Key.
func TestKey(t *testing.T) {
	for _, s := range []string{"a", "z", "dead", "abcdefgh", "zzzzzzzz"} {
		if !note.Key(s) {
			t.Errorf("%q is no key", s)
		}
	}
	for _, s := range []string{"", "abcdefghi", "a b", "aB", "a1", "é", "aé", "a\x00", " a", "a\n", strings.Repeat("a", 1000)} {
		if note.Key(s) {
			t.Errorf("%q is a key", s)
		}
	}
	for c := range 256 {
		want := c >= 'a' && c <= 'z'
		for _, s := range []string{string([]byte{byte(c)}), string([]byte{'a', byte(c)}), string([]byte{byte(c), 'a'})} {
			if note.Key(s) != want {
				t.Errorf("Key(%q) is %v", s, !want)
			}
		}
	}
}

// A1: Wrong, of one property.
func TestWrongProperty(t *testing.T) {
	long := strings.Repeat("x", api.MaxText)
	tests := []struct {
		n    api.Note
		want api.Errno
	}{
		{withProp("a", api.PropInt, 0, ""), api.OK},
		{withProp("abcdefgh", api.PropInt, api.MaxInt, ""), api.OK},
		{withProp("a", api.PropInt, -api.MaxInt, ""), api.OK},
		{withProp("a", api.PropText, 0, ""), api.OK},
		{withProp("a", api.PropText, 0, long), api.OK},
		{withProp("a", api.PropFlag, 0, ""), api.OK},
		{withProp("a", api.PropFlag, 1, ""), api.OK},

		{withProp("", api.PropInt, 0, ""), api.ErrName},
		{withProp("A", api.PropInt, 0, ""), api.ErrName},
		{withProp("abcdefghi", api.PropInt, 0, ""), api.ErrName},
		{withProp("a", 0, 0, ""), api.ErrKind},
		{withProp("a", 4, 0, ""), api.ErrKind},
		{withProp("a", -1, 0, ""), api.ErrKind},
		{withProp("a", 1<<32+1, 0, ""), api.ErrKind},
		{withProp("a", api.PropInt, api.MaxInt+1, ""), api.ErrRange},
		{withProp("a", api.PropInt, -api.MaxInt-1, ""), api.ErrRange},
		{withProp("a", api.PropInt, math.MaxInt, ""), api.ErrRange},
		{withProp("a", api.PropInt, math.MinInt, ""), api.ErrRange},
		{withProp("a", api.PropFlag, 2, ""), api.ErrRange},
		{withProp("a", api.PropFlag, -1, ""), api.ErrRange},
		{withProp("a", api.PropText, 0, long+"x"), api.ErrMuch},
		{withProp("a", api.PropText, 1, ""), api.ErrForm},
		{withProp("a", api.PropText, -1, long), api.ErrForm},
		{withProp("a", api.PropInt, 1, "x"), api.ErrForm},
		{withProp("a", api.PropFlag, 1, "x"), api.ErrForm},

		// where several fit, the first one is told
		{withProp("", 9, math.MaxInt, "x"), api.ErrName},
		{withProp("a", 9, math.MaxInt, "x"), api.ErrKind},
		{withProp("a", api.PropInt, math.MaxInt, "x"), api.ErrRange},
		{withProp("a", api.PropFlag, 2, long+"x"), api.ErrRange},
		{withProp("a", api.PropText, math.MaxInt, long+"x"), api.ErrMuch},
		{withProp("a", api.PropText, math.MaxInt, ""), api.ErrForm},
		{withProp("a", api.PropInt, 0, long+"x"), api.ErrForm},
	}
	for _, c := range tests {
		if got := note.Wrong(c.n); got != c.want {
			t.Errorf("Wrong(%v) is %d, not %d", c.n, got, c.want)
		}
	}
}

// A1: Wrong, of a whole note.
func TestWrongNote(t *testing.T) {
	right := api.Prop{Key: "a", Kind: api.PropInt}
	times := func(n int) []api.Prop {
		var out []api.Prop
		for range n {
			out = append(out, right)
		}
		return out
	}
	stray := api.Prop{Key: "a", Kind: api.PropInt, Text: "x"}
	tests := []struct {
		name string
		n    api.Note
		want api.Errno
	}{
		{"nothing", api.Note{}, api.OK},
		{"empty lists", api.Note{Props: []api.Prop{}, Body: []byte{}}, api.OK},
		{"several", sample(), api.OK},
		{"as many as may be", api.Note{Props: times(api.MaxProps), Body: make([]byte, api.MaxBody)}, api.OK},
		{"one too many", api.Note{Props: times(api.MaxProps + 1)}, api.ErrMany},
		{"too many wrong ones", api.Note{Props: make([]api.Prop, api.MaxProps+1), Body: make([]byte, api.MaxBody+1)}, api.ErrMany},
		{"too long a body", api.Note{Body: make([]byte, api.MaxBody+1)}, api.ErrMuch},
		{"a very long body", api.Note{Props: times(1), Body: make([]byte, 1<<16)}, api.ErrMuch},
		{"the first wrong property is told", api.Note{Props: []api.Prop{right, stray, {}}}, api.ErrForm},
		{"the last property counts", api.Note{Props: append(times(api.MaxProps-1), api.Prop{Key: "a"})}, api.ErrKind},
		{"properties ahead of the body", api.Note{Props: []api.Prop{right, stray}, Body: make([]byte, api.MaxBody+1)}, api.ErrForm},
	}
	for _, c := range tests {
		if got := note.Wrong(c.n); got != c.want {
			t.Errorf("%s: Wrong is %d, not %d", c.name, got, c.want)
		}
	}
}
