package lines_test

import (
	"strings"
	"testing"

	"trivetgate/api"
)

// thereAndBack: whatever follows, what was written is read; with less, more must come.
func thereAndBack[T any](t *testing.T, x tongue[T]) {
	for _, w := range x.right {
		for _, more := range []string{"", "\n", "z", " ", "\x00\xff", w.line, strings.Repeat("z", 500), strings.Repeat("\n", 500)} {
			x.comes(t, w.line+more, w)
		}
		for k := range w.line {
			x.refused(t, w.line[:k], api.ErrMore)
		}
	}
}

// H2: there, and back.
func TestThereAndBack(t *testing.T) {
	thereAndBack(t, asks())
	thereAndBack(t, says())
}

// sizes: what is told by where the first line feed is, whatever is ahead of it. first is a first word that there is.
func sizes[T any](t *testing.T, x tongue[T], first string) {
	fill := func(n int) string { return first + strings.Repeat(" ", n-len(first)) }
	tests := []struct {
		name string
		b    string
		want api.Errno
	}{
		{"nothing", "", api.ErrMore},
		{"a byte", "z", api.ErrMore},
		{"all but the line feed", fill(20), api.ErrMore},
		{"MaxIn - 1 bytes", fill(399), api.ErrMore},
		{"MaxIn - 1 bytes of no kind", strings.Repeat("\x00", 399), api.ErrMore},
		{"MaxIn bytes", fill(400), api.ErrMuch},
		{"MaxIn bytes of no kind", strings.Repeat("\xff", 400), api.ErrMuch},
		{"very many bytes", fill(70000), api.ErrMuch},
		{"a line feed that is the last one of MaxIn bytes", fill(399) + "\n", api.ErrForm},
		{"the same, of no kind", strings.Repeat("z", 399) + "\n", api.ErrKind},
		{"the same, and more", fill(399) + "\n" + fill(500), api.ErrForm},
		{"a line feed behind MaxIn bytes", fill(400) + "\n", api.ErrMuch},
		{"a line feed far behind MaxIn bytes", fill(70000) + "\n", api.ErrMuch},
		{"a line feed behind MaxIn bytes, of no kind", strings.Repeat("z", 400) + "\n", api.ErrMuch},
		{"a line feed alone", "\n", api.ErrKind},
		{"line feeds alone", "\n\n\n", api.ErrKind},
		{"a line behind an empty one", "\n" + first + "\n", api.ErrKind},
		{"a carriage return alone", first + "\r", api.ErrMore},
	}
	for _, c := range tests {
		t.Run(x.name+" "+c.name, func(t *testing.T) { x.refused(t, c.b, c.want) })
		if got := x.model.tells(c.b); got != c.want {
			t.Errorf("%s: the model tells %d, not %d", c.name, got, c.want)
		}
	}
	if _, _, err := x.read(nil); err != api.ErrMore {
		t.Errorf("%s(nil) tells %d", x.name, err)
	}
}

// H2: line feeds, and MaxIn.
func TestSizes(t *testing.T) {
	sizes(t, asks(), "ping")
	sizes(t, says(), "+ok")
}

// refusals looks at lines, by what is told of them.
func refusals[T any](t *testing.T, x tongue[T], tests map[api.Errno][]string) {
	for want, texts := range tests {
		for _, s := range texts {
			x.refused(t, s+"\n", want)
			x.refused(t, s+"\nping\n+ok\n", want)
		}
	}
}

// The words of a note that has too much of something, alone.
const (
	manyProps = "a=1 a=1 a=1 a=1 a=1 #"
	longText  = "a=$00000000000000000000000000 #"
	longKey   = "abcdefghi=1 #"
)

var longBody = "#" + strings.Repeat("00", api.MaxBody+1)

// H2: what is wrong with asks, in the order in which it is told.
func TestAskRefuses(t *testing.T) {
	refusals(t, asks(), map[api.Errno][]string{
		api.ErrKind: {
			"", " ", " ping", "PING", "Ping", "pin", "pings", "ping\r", "\x00ping", "ping\x00", "ping\tx", "ping=1", "+ok", "-3", "+item 1 0 #", "+none", "-",
			"make=q 3", "MAKE q 3", "mak q 3", "put\tq #", "#", "q", "1", "purges q", "doner 1", " take q", "z Q x x x",
		},
		api.ErrForm: {
			"ping ", "ping x", "ping  ", "ping ping", "ping #",
			"make", "make ", "make q", "make q ", "make 3", "make q x", "make q 3 ", "make q  3", "make  q 3", "make q 3 4", "make q 03", "make q +3", "make q -0", "make q 3\r", "make q 1073741825", "make q -1073741825", "make q 4294967299", "make q 99999999999999999999", "make Q x", "make q 3 #", "make q $33",
			"drop", "drop q ", "drop  q", "drop q 3", "drop q #", "drop Q Q",
			"put", "put ", "put q", "put q ", "put #", "put q  #", "put  q #", "put q # ", "put q # #", "put q #61 #", "put q # a=1", "put q #6", "put q #6A", "put q #zz", "put q ##", "put q #a=1 #", "put q a=1", "put q a=1 ", "put q a #", "put q a= #", "put q = #", "put q a=x #", "put q a=1  #", "put q a=1 b #", "put q a==1 #", "put q a=b=1 #", "put q a=01 #", "put q a=+1 #", "put q a=1073741825 #", "put q a=$6 #", "put q a=$6A #", "put q a=!x #", "put q a=! #", "put q a=!1073741825 #", "put q a:1 #", "put q 3 #", "put q 61", "put q a=1 #61\r", "put Q # x", "put q A=x #", "put q " + manyProps + "6", "put q " + longText + " ", "put q " + longBody + "0", "put q " + longKey + "z",
			"take", "take q ", "take  q", "take q q", "take q #",
			"wait", "wait ", "wait q", "wait q ", "wait q x", "wait q  4", "wait q 4 4", "wait q 04", "wait q !1", "wait Q x",
			"done", "done ", "done x", "done q 1", "done 1 ", "done  1", "done 1 2", "done 01", "done +1", "done -0", "done 1073741825", "done #",
			"back", "back ", "back x", "back q 1", "back 1 ", "back  1", "back 1 2", "back 01",
			"purge", "purge q ", "purge  q", "purge q q", "purge Q 1",
		},
		api.ErrName: {
			"make  3", "make Q 3", "make abcdefghi 3", "make 3 3", "make q\r 3", "make a-b 3", "make \xff 3", "make Q -1",
			"drop ", "drop Q", "drop abcdefghi", "drop q\r", "drop #", "drop q=1", "drop q\x00", "drop q\t",
			"put  #", "put Q #", "put # #", "put a=1 #", "put Q " + manyProps, "put q =1 #", "put q A=1 #", "put q " + longKey, "put q =!7 #", "put q a#=1 #", "put q \xff=1 #", "put q \t=1 #", "put q a=1 =1 #", "put q A=$00000000000000000000000000 #", "put q A=1 " + longBody,
			"take ", "take Q", "take q\r", "wait  4", "wait Q 4", "wait Q 0", "wait abcdefghi 10", "purge ", "purge Q", "purge abcdefghi",
		},
		api.ErrRange: {
			"make q -1", "make q -1073741824",
			"wait q 0", "wait q 10", "wait q -1", "wait q 1073741824", "done 0", "done -1", "done -1073741824", "back 0", "back -1",
			"put q a=!2 #", "put q a=!5 #", "put q a=!-1 #", "put q a=!1073741824 #", "put q a=!2 =1 #", "put q a=!2 " + longBody, "put q b=1 a=!2 " + longText,
		},
		api.ErrMuch: {"put q " + longText, "put q " + longBody, "put q a=1 " + longBody, "put q a=$00000000000000000000000000 a=!2 #"},
		api.ErrMany: {"put q " + manyProps, "put q A=1 =1 a=!2 a=1 a=1 " + longBody, "put q " + strings.Repeat("=0 ", 120) + "#"},
	})
}

// H2: what is wrong with answers, in the order in which it is told.
func TestSayRefuses(t *testing.T) {
	refusals(t, says(), map[api.Errno][]string{
		api.ErrKind: {
			"", " ", " +ok", "ok", "+OK", "+okay", "+o", "+", "+ ok", "+ok\r", "+no", "+nones", "+item\t1 0 #", "+items 1 0 #", "item 1 0 #", "ping", "3", "+3", " -3", "\x00-3", "x x x",
		},
		api.ErrForm: {
			"+ok ", "+ok x", "+ok +ok", "+ok 0", "+ok #", "+none ", "+none x", "+none #",
			"+item", "+item ", "+item #", "+item 1", "+item 1 #", "+item 1 2", "+item 1 2 ", "+item 1 x #", "+item x 1 #", "+item 1 2 3 #", "+item 01 2 #", "+item 1 02 #", "+item +1 2 #", "+item 1 -0 #", "+item 1073741825 0 #", "+item 1 1073741825 #", "+item  1 2 #", "+item 1 2  #", "+item 1 2 # ", "+item 1 2 # #", "+item 1 2 #6", "+item 1 2 #6A", "+item 1 2 a=1", "+item 1 2 a #", "+item 1 2 a= #", "+item 1 2 #61 a=1", "+item 0 9 x", "+item q 1 #", "+item 1 2 " + manyProps + "6",
			"-", "- ", "- 3", "-x", "-3 ", "-3 4", "-3 #", "-03", "-+3", "--", "--0", "-3\r", "-1073741825", "--1073741825", "-3-", "-$33", "-ok", "-item 1 0 #", "-11 ",
		},
		api.ErrRange: {
			"+item 0 0 #", "+item -1 0 #", "+item 1 -1 #", "+item 1 4 #", "+item 1 1073741824 #", "+item -1073741824 0 #", "+item 0 0 " + manyProps, "+item 1 4 " + longBody, "+item 0 0 A=1 #",
			"+item 1 2 a=!2 #", "+item 1 2 a=!-1 " + longBody,
			"-0", "-11", "-256", "-1073741824", "--1", "--3", "--1073741824",
		},
		api.ErrName: {"+item 1 2 =1 #", "+item 1 2 A=1 #", "+item 1 2 " + longKey, "+item 1 2 A=!2 " + longBody},
		api.ErrMuch: {"+item 1 2 " + longText, "+item 1 2 " + longBody},
		api.ErrMany: {"+item 1 2 " + manyProps, "+item 1 2 =1 =1 =1 =1 =1 " + longBody},
	})
}

// H2: notes of words that look like others.
func TestNotesOfOddWords(t *testing.T) {
	tests := map[string]api.Note{
		"put q put=1 #":          {Props: []api.Prop{{Key: "put", Kind: api.PropInt, N: 1}}},
		"put q a=$ #":            {Props: []api.Prop{{Key: "a", Kind: api.PropText}}},
		"put q a=$23 #23":        {Props: []api.Prop{{Key: "a", Kind: api.PropText, Text: "#"}}, Body: []byte("#")},
		"put q a=!0 a=0 a=$30 #": {Props: []api.Prop{{Key: "a", Kind: api.PropFlag}, {Key: "a", Kind: api.PropInt}, {Key: "a", Kind: api.PropText, Text: "0"}}},
		"put q #0a":              {Body: []byte("\n")},
	}
	for line, n := range tests {
		asks().comes(t, line+"\n", written[api.Ask]{api.Ask{Kind: api.AskPut, Queue: "q", Note: n}, line + "\n"})
	}
}

// turned looks at each line with each byte turned, left out, and doubled, and with a byte more that means something.
func turned[T any](t *testing.T, x tongue[T]) {
	for _, w := range x.right {
		b := w.line
		for i := range b {
			for c := range 256 {
				x.honest(t, b[:i]+string([]byte{byte(c)})+b[i+1:])
			}
			x.honest(t, b[:i]+b[i+1:])
			for _, c := range []string{b[i : i+1], " ", "#", "=", "-", "0", "\n"} {
				x.honest(t, b[:i]+c+b[i:])
			}
		}
	}
}

func TestAnyByteTurned(t *testing.T) {
	turned(t, asks())
	turned(t, says())
}

// TestAnyWords looks at each line of up to four words of a few.
func TestAnyWords(t *testing.T) {
	words := []string{"", "ping", "make", "put", "take", "done", "q", "Q", "3", "0", "-3", "#", "#61", "a=1", "=!7", "+ok", "+item", "+none"}
	var look func(line string, more int)
	look = func(line string, more int) {
		asks().honest(t, line+"\n")
		says().honest(t, line+"\n")
		if more == 0 {
			return
		}
		for _, w := range words {
			look(line+" "+w, more-1)
		}
	}
	for _, w := range words {
		look(w, 3)
	}
}

func FuzzRead(f *testing.F) {
	for _, w := range askLines() {
		f.Add([]byte(w.line))
	}
	for _, w := range sayLines() {
		f.Add([]byte(w.line))
	}
	f.Fuzz(func(t *testing.T, b []byte) {
		for _, s := range []string{string(b), string(b) + "\n"} {
			asks().honest(t, s)
			says().honest(t, s)
		}
	})
}

// readIsOwn: what is read shares nothing with what it was read from.
func readIsOwn[T any](t *testing.T, x tongue[T]) {
	for _, w := range x.right {
		given := withRoom([]byte(w.line), roomByte)
		got, _, _ := x.read(given)
		spoilNote(*x.note(&got))
		if string(given) != w.line || behind(given) != roomByte {
			t.Errorf("%s: what was handed in changed with what was read: %q", x.name, given)
		}
		got, _, _ = x.read(given)
		spoilBytes(given)
		if !x.same(got, w.is) {
			t.Errorf("%s: what was read changed with the bytes: %v", x.name, got)
		}
	}
}

func TestReadSharesNothing(t *testing.T) {
	readIsOwn(t, asks())
	readIsOwn(t, says())
}
