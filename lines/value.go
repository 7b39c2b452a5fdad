package lines

import (
	"strconv"
	"strings"

	"trivetgate/api"
)

const hexDigits = "0123456789abcdef"

// What the Value of a property begins with that is a text, or a flag.
const (
	textSign = "$"
	flagSign = "!"
)

// Number reads a number in tens; false, if s is none that is just so written.
func Number(s string) (int, bool) {
	n, err := strconv.Atoi(s)
	// Atoi reads needless signs and noughts too; a number is written in one way alone.
	if err != nil || strconv.Itoa(n) != s {
		return 0, false
	}
	if n < -api.MaxInt || n > api.MaxInt {
		return 0, false
	}
	return n, true
}

// Hex writes each byte as two digits.
func Hex(b []byte) string {
	out := make([]byte, 0, 2*len(b))
	for _, c := range b {
		out = append(out, hexDigits[c>>4], hexDigits[c&15])
	}
	return string(out)
}

// Unhex reads what Hex has written; false, if s is no such text.
func Unhex(s string) ([]byte, bool) {
	if len(s)%2 != 0 {
		return nil, false
	}
	out := make([]byte, 0, len(s)/2)
	for i := 0; i < len(s); i += 2 {
		upper := strings.IndexByte(hexDigits, s[i])
		lower := strings.IndexByte(hexDigits, s[i+1])
		if upper < 0 || lower < 0 {
			return nil, false
		}
		out = append(out, byte(upper<<4|lower))
	}
	return out, true
}

// Value writes what a property has, beside its key.
func Value(p api.Prop) string {
	switch p.Kind {
	case api.PropInt:
		return strconv.Itoa(p.N)
	case api.PropText:
		return textSign + Hex([]byte(p.Text))
	case api.PropFlag:
		return flagSign + strconv.Itoa(p.N)
	}
	return ""
}

// Prop reads the property whose Value is s; false, if there is none. Whether it is right is not asked here: neither its key, nor how long a text is, nor which number a flag has.
func Prop(key, s string) (api.Prop, bool) {
	if hex, is := strings.CutPrefix(s, textSign); is {
		return textProp(key, hex)
	}
	if digits, is := strings.CutPrefix(s, flagSign); is {
		return numberProp(key, api.PropFlag, digits)
	}
	return numberProp(key, api.PropInt, s)
}

func textProp(key, hex string) (api.Prop, bool) {
	text, good := Unhex(hex)
	if !good {
		return api.Prop{}, false
	}
	return api.Prop{Key: key, Kind: api.PropText, Text: string(text)}, true
}

func numberProp(key string, kind int, digits string) (api.Prop, bool) {
	n, good := Number(digits)
	if !good {
		return api.Prop{}, false
	}
	return api.Prop{Key: key, Kind: kind, N: n}, true
}
