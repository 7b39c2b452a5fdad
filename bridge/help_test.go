package bridge_test

import (
	"fmt"
	"reflect"
	"strings"
	"testing"

	"trivetgate/api"
	"trivetgate/bridge"
)

func open(tongue int) api.Step {
	return api.Step{Kind: api.StepOpen, N: tongue}
}

func in(n int, data string) api.Step {
	return api.Step{Kind: api.StepIn, N: n, Data: []byte(data)}
}

func shut(n int) api.Step {
	return api.Step{Kind: api.StepClose, N: n}
}

func crash(keep int) api.Step {
	return api.Step{Kind: api.StepCrash, N: keep}
}

var (
	tick  = api.Step{Kind: api.StepTick}
	sync  = api.Step{Kind: api.StepSync}
	short = api.Step{Kind: api.StepShort}
)

// run answers what is there when all steps were done, of which none is refused.
func run(t *testing.T, b api.Bridge, steps ...api.Step) api.Bridge {
	t.Helper()
	for _, s := range steps {
		x, err := bridge.Do(b, s)
		if err != api.OK {
			t.Fatalf("step %d, %d, %q: %d is told", s.Kind, s.N, s.Data, err)
		}
		b = x
	}
	return b
}

// with answers a bridge with somebody of each of these tongues.
func with(t *testing.T, tongues ...int) api.Bridge {
	t.Helper()
	var b api.Bridge
	for _, n := range tongues {
		b = run(t, b, open(n))
	}
	return b
}

// refused: s is refused, and the bridge is as it was.
func refused(t *testing.T, b api.Bridge, s api.Step, want api.Errno) {
	t.Helper()
	x, err := bridge.Do(b, s)
	if err != want {
		t.Errorf("step %d, %d, %q: %d is told, not %d", s.Kind, s.N, s.Data, err, want)
	}
	check(t, x, b)
}

// check holds values against each other, and tells where they part; nil and a list without entries are the same.
func check[T any](t *testing.T, got, want T) {
	t.Helper()
	a, b := fmt.Sprintf("%+v", got), fmt.Sprintf("%+v", want)
	if a == b {
		return
	}
	k := 0
	for k < min(len(a), len(b)) && a[k] == b[k] {
		k++
	}
	k = max(0, k-100)
	t.Errorf("%.300s, not %.300s", a[k:], b[k:])
}

// sayOK and sayNone are what is said when something was done, and when there was nothing.
var (
	sayOK   = api.Say{Kind: api.SayOK}
	sayNone = api.Say{Kind: api.SayNone}
)

func sayErr(err api.Errno) api.Say {
	return api.Say{Kind: api.SayErr, Err: err}
}

func sayItem(tag, tries int, body string) api.Say {
	return api.Say{Kind: api.SayItem, N: tag, M: tries, Note: api.Note{Body: []byte(body)}}
}

// letter is a note with something in each of its lists.
func letter() api.Note {
	return api.Note{Props: []api.Prop{{Key: "k", Kind: api.PropText, Text: "=#"}, {Key: "n", Kind: api.PropInt, N: -7}}, Body: []byte("b\r\n")}
}

// oks is so often sayOK, and more behind it.
func oks(n int, more ...api.Say) []api.Say {
	var out []api.Say
	for range n {
		out = append(out, sayOK)
	}
	return append(out, more...)
}

// pings is so many asks, as lines.
func pings(n int) string {
	return strings.Repeat("ping\n", n)
}

func askWait(name string, n int) api.Ask {
	return api.Ask{Kind: api.AskWait, Queue: name, N: n}
}

// bodies tells what the items of a queue are, by the bodies of their notes.
func bodies(q api.Queue) string {
	var out []string
	for _, i := range q.Items {
		out = append(out, string(i.Note.Body))
	}
	return strings.Join(out, " ")
}

// fill answers b with room for so many bytes more in the log, by asks of n, who speaks lines, in a queue q that is empty.
func fill(t *testing.T, b api.Bridge, n, room int) api.Bridge {
	t.Helper()
	// What is put and goes again is told in 24 bytes, and those of its body.
	const least = 24
	left := api.MaxLog - room - len(b.Log.Bytes)
	for ; left > least+api.MaxBody; left -= least {
		b = run(t, b, in(n, "put q #\npurge q\n"), sync)
	}
	b = run(t, b, in(n, "put q #"+strings.Repeat("78", left-least)+"\npurge q\n"), sync)
	if len(b.Log.Bytes) != api.MaxLog-room {
		t.Fatalf("the log has %d bytes", len(b.Log.Bytes))
	}
	return b
}

// roomByte stands in spare room, where nobody may look at it or change it.
const roomByte = 0xAA

// roomy answers a copy of x, each list of which has room for one entry behind it, and something there.
func roomy[T any](x T) T {
	return roomyOf(reflect.ValueOf(x)).Interface().(T)
}

func roomyOf(v reflect.Value) reflect.Value {
	out := reflect.New(v.Type()).Elem()
	switch v.Kind() {
	case reflect.Struct:
		for k := range v.NumField() {
			out.Field(k).Set(roomyOf(v.Field(k)))
		}
	case reflect.Slice:
		n := v.Len()
		out.Set(reflect.MakeSlice(v.Type(), n, n+1))
		for k := range n {
			out.Index(k).Set(roomyOf(v.Index(k)))
		}
		room := out.Slice(0, n+1).Index(n)
		if room.Kind() == reflect.Uint8 {
			room.SetUint(roomByte)
		} else if n > 0 {
			room.Set(roomyOf(v.Index(0)))
		}
	default:
		out.Set(v)
	}
	return out
}

// whole tells all of v, with what is behind each list.
func whole(x any) string {
	return wholeOf(reflect.ValueOf(x))
}

func wholeOf(v reflect.Value) string {
	var out []string
	switch v.Kind() {
	case reflect.Struct:
		for k := range v.NumField() {
			out = append(out, wholeOf(v.Field(k)))
		}
	case reflect.Slice:
		v = v.Slice(0, v.Cap())
		for k := range v.Len() {
			out = append(out, wholeOf(v.Index(k)))
		}
	default:
		return fmt.Sprintf("%q", fmt.Sprint(v.Interface()))
	}
	return "{" + strings.Join(out, " ") + "}"
}

// memory is where a list lies, with the room behind it.
type memory struct {
	from, to uintptr
}

func memories(v reflect.Value) []memory {
	var out []memory
	switch v.Kind() {
	case reflect.Struct:
		for k := range v.NumField() {
			out = append(out, memories(v.Field(k))...)
		}
	case reflect.Slice:
		if size := uintptr(v.Cap()) * v.Type().Elem().Size(); size > 0 {
			out = append(out, memory{v.Pointer(), v.Pointer() + size})
		}
		for k := range v.Len() {
			out = append(out, memories(v.Index(k))...)
		}
	}
	return out
}

// checkApart: no two lists of all that there is in these values share any memory.
func checkApart(t *testing.T, values ...any) {
	t.Helper()
	var all []memory
	for _, x := range values {
		all = append(all, memories(reflect.ValueOf(x))...)
	}
	for k, a := range all {
		for _, b := range all[k+1:] {
			if a.from < b.to && b.from < a.to {
				t.Errorf("two lists share memory: %x, %x", a, b)
			}
		}
	}
}
