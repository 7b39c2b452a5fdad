package lines_test

import (
	"fmt"
	"math"
	"slices"
	"strconv"
	"strings"
	"testing"

	"trivetgate/api"
	"trivetgate/lines"
)

// noNumbers are texts that are no Number, of numbers or not.
func noNumbers() []string {
	return []string{
		"", "-", "+", "-0", "+0", "+7", "07", "-07", "00", "-00", "--1", "1-", "-+1", "- 1", " 1", "1 ", "1\n", "\n1", "1\x00",
		"1073741825", "-1073741825", "2147483648", "4294967297", "9223372036854775807", "9223372036854775808", "-9223372036854775808",
		"18446744073709551616", "18446744073709551617", "99999999999999999999", strings.Repeat("9", 5000), strings.Repeat("0", 5000) + "1",
		"a", "1a", "0x1", "0b1", "0o1", "1_000", "1e3", "1.0", "1.", "\u0661", "\uff11", "\xff", "true", "$", "!",
	}
}

// H1: Number.
func TestNumber(t *testing.T) {
	for _, n := range []int{0, 7, -7, 10, -10, 100, math.MaxInt8, math.MinInt16, api.MaxInt - 1, api.MaxInt, 1 - api.MaxInt, -api.MaxInt} {
		if got, good := lines.Number(strconv.Itoa(n)); got != n || !good {
			t.Errorf("Number(%d) answers %d, %v", n, got, good)
		}
	}
	for n := -2000; n <= 2000; n++ {
		if got, good := lines.Number(fmt.Sprint(n)); got != n || !good {
			t.Errorf("Number(%d) answers %d, %v", n, got, good)
		}
	}
	for _, s := range noNumbers() {
		if got, good := lines.Number(s); good {
			t.Errorf("Number(%q) answers %d", s, got)
		}
	}
}

// H1: Hex and Unhex, of each byte and of all.
func TestHex(t *testing.T) {
	var all []byte
	var text string
	for c := range 256 {
		b, want := []byte{byte(c)}, fmt.Sprintf("%02x", c)
		if got := lines.Hex(b); got != want {
			t.Errorf("Hex(%d) is %q", c, got)
		}
		if got, good := lines.Unhex(want); !good || !slices.Equal(got, b) {
			t.Errorf("Unhex(%q) answers %v, %v", want, got, good)
		}
		all, text = append(all, b...), text+want
	}
	given := withRoom(all, roomByte)
	if got := lines.Hex(given); got != text {
		t.Errorf("Hex of all bytes is %q", got)
	}
	if !slices.Equal(given, all) || behind(given) != roomByte {
		t.Errorf("Hex changed what it was handed: %v", given)
	}
	if got, good := lines.Unhex(text); !good || !slices.Equal(got, all) {
		t.Errorf("Unhex of all bytes answers %v, %v", got, good)
	}
	if lines.Hex(nil) != "" || lines.Hex([]byte{}) != "" {
		t.Errorf("Hex of nothing is something")
	}
	if got, good := lines.Unhex(""); !good || len(got) != 0 {
		t.Errorf("Unhex of nothing answers %v, %v", got, good)
	}
}

// H1: Unhex, of each text of two bytes, and of others that are no Hex.
func TestUnhexRefuses(t *testing.T) {
	isDigit := func(c int) bool { return c >= '0' && c <= '9' || c >= 'a' && c <= 'f' }
	for c := range 256 {
		for d := range 256 {
			s := string([]byte{byte(c), byte(d)})
			got, good := lines.Unhex(s)
			if good != (isDigit(c) && isDigit(d)) || good && lines.Hex(got) != s {
				t.Errorf("Unhex(%q) answers %v, %v", s, got, good)
			}
		}
	}
	for _, s := range []string{"6", "616", "6 ", " 61", "61 ", "6A", "FF", "0x61", "616g", "g161", "61\n", "6\n1", "\u0661", "\uff16\uff11"} {
		if got, good := lines.Unhex(s); good || len(got) != 0 {
			t.Errorf("Unhex(%q) answers %v, %v", s, got, good)
		}
	}
}

func TestUnhexIsOwn(t *testing.T) {
	a, _ := lines.Unhex("616263")
	b, _ := lines.Unhex("616263")
	sharesNothing(t, a, b)
	a, _ = lines.Unhex("")
	b, _ = lines.Unhex("")
	sharesNothing(t, append(a, 'x'), append(b, 'y'))
}

// values are properties, and their Value.
func values() map[string]api.Prop {
	k := func(kind, n int, text string) api.Prop { return api.Prop{Key: "k", Kind: kind, N: n, Text: text} }
	return map[string]api.Prop{
		"0": k(api.PropInt, 0, ""), "7": k(api.PropInt, 7, ""), "-7": k(api.PropInt, -7, ""), "61": k(api.PropInt, 61, ""),
		"1073741824": k(api.PropInt, api.MaxInt, ""), "-1073741824": k(api.PropInt, -api.MaxInt, ""),
		"$": k(api.PropText, 0, ""), "$61": k(api.PropText, 0, "a"), "$00ff": k(api.PropText, 0, "\x00\xff"), "$24": k(api.PropText, 0, "$"),
		"$612062": k(api.PropText, 0, "a b"), "$c3a9": k(api.PropText, 0, "\u00e9"),
		"$" + strings.Repeat("7a", api.MaxText): k(api.PropText, 0, strings.Repeat("z", api.MaxText)),
		"$" + strings.Repeat("7a", 300):         k(api.PropText, 0, strings.Repeat("z", 300)),
		"!0":                                    k(api.PropFlag, 0, ""), "!1": k(api.PropFlag, 1, ""), "!7": k(api.PropFlag, 7, ""), "!-7": k(api.PropFlag, -7, ""),
		"!1073741824": k(api.PropFlag, api.MaxInt, ""), "!-1073741824": k(api.PropFlag, -api.MaxInt, ""),
	}
}

// H1: Value and Prop, there and back. No field that a kind has not is asked.
func TestValueAndProp(t *testing.T) {
	for s, p := range values() {
		if got := lines.Value(p); got != s {
			t.Errorf("Value(%v) is %q, not %q", p, got, s)
		}
		for _, key := range []string{"k", "abcdefgh", "", "K", "a b", "=", "#", "\n", strings.Repeat("k", 300)} {
			p.Key = key
			if got, good := lines.Prop(key, s); !good || got != p {
				t.Errorf("Prop(%q, %q) answers %v, %v", key, s, got, good)
			}
		}
		stray := p
		if p.Kind == api.PropText {
			stray.N = 5
		} else {
			stray.Text = "x"
		}
		if got := lines.Value(stray); got != s {
			t.Errorf("Value(%v) is %q, not %q", stray, got, s)
		}
	}
}

// H1: what is no Value.
func TestPropRefuses(t *testing.T) {
	texts := []string{"$6", "$6A", "$616", "$zz", "$ 61", "$61 ", "$$", "$$61", "$!0", "$-7", " $61", "61$", "!!0", "!$61", " !0", "0!", "! 0", "#61", "k=1", "=1", "true", "\x00", "\xff"}
	for _, s := range noNumbers() {
		texts = append(texts, "!"+s)
		if s != "$" && s != "!" {
			texts = append(texts, s)
		}
	}
	texts = append(texts, "!")
	for _, s := range texts {
		if got, good := lines.Prop("k", s); good {
			t.Errorf("Prop of %q answers %v", s, got)
		}
	}
}

// Z1: of properties that are none nothing is promised, but that they are answered.
func TestValueOfWrongOnesAnswers(t *testing.T) {
	for _, kind := range []int{0, 4, -1, math.MaxInt, math.MinInt, api.PropInt, api.PropText, api.PropFlag} {
		for _, n := range []int{math.MaxInt, math.MinInt, -1} {
			lines.Value(api.Prop{Kind: kind, N: n, Text: strings.Repeat("x", 70000)})
		}
	}
}

func FuzzValue(f *testing.F) {
	for s := range values() {
		f.Add(s)
	}
	for _, s := range noNumbers() {
		f.Add(s)
	}
	f.Fuzz(func(t *testing.T, s string) {
		if n, good := lines.Number(s); good && (strconv.Itoa(n) != s || n < -api.MaxInt || n > api.MaxInt) {
			t.Errorf("Number(%q) answers %d", s, n)
		}
		if b, good := lines.Unhex(s); good && lines.Hex(b) != s {
			t.Errorf("Unhex(%q) answers %v", s, b)
		}
		if got, good := lines.Unhex(lines.Hex([]byte(s))); !good || string(got) != s {
			t.Errorf("Unhex of Hex of %q answers %q, %v", s, got, good)
		}
		if p, good := lines.Prop("k", s); good && (lines.Value(p) != s || p.Key != "k") {
			t.Errorf("Prop of %q answers %v", s, p)
		}
	})
}
