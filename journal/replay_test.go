package journal_test

import (
	"bytes"
	"maps"
	"slices"
	"testing"

	"trivetgate/api"
	"trivetgate/hall"
	"trivetgate/journal"
	"trivetgate/store"
)

// logOf answers a log of these records, however many they are.
func logOf(recs ...[]byte) []byte {
	var out []byte
	for _, rec := range recs {
		out = append(out, store.Frame(rec)...)
	}
	return out
}

func bytesOf(es []api.Entry) [][]byte {
	var out [][]byte
	for _, e := range es {
		out = append(out, journal.Bytes(e))
	}
	return out
}

// told are entries of a queue that stays and of one that goes.
func told() []api.Entry {
	return []api.Entry{makeOf("a", 4), putOf("a", 0, letter('x')), makeOf("b", 1), putOf("b", 1, letter('y')), putOf("a", 2, letter('z')), goneOf("a", 0), dropOf("b")}
}

func toldHall() api.Hall {
	return api.Hall{Next: 3, Queues: []api.Queue{{Name: "a", Limit: 4, Items: []api.Item{{ID: 2, Note: letter('z')}}}}}
}

// The document's fifth example.
func TestTheNextNumberIsAboveSeven(t *testing.T) {
	h := journal.Apply(journal.Apply(api.Hall{}, makeOf("q", 4)), putOf("q", 7, letter('x')))
	if h.Next != 8 {
		t.Errorf("the next number is %d, not 8", h.Next)
	}
}

// E1: Replay.
func TestReplay(t *testing.T) {
	recs := bytesOf(told())
	tests := []struct {
		name string
		b    []byte
		want api.Hall
	}{
		{"nothing", nil, api.Hall{}},
		{"no frame", []byte{0, 3, 1}, api.Hall{}},
		{"an empty record", logOf(nil), api.Hall{}},
		{"entries", logOf(recs...), toldHall()},
		{"records that are no entries are passed over", logOf(slices.Concat([][]byte{nil, {0, 0}}, recs[:3], [][]byte{{5, 0}, {1, 1, 'z'}}, recs[3:], [][]byte{{2, 1, 'a', 0}})...), toldHall()},
		{"entries that tell nothing are passed over", logOf(bytesOf(slices.Concat([]api.Entry{dropOf("a"), putOf("a", 900, letter('n')), goneOf("a", 0)}, told(), []api.Entry{makeOf("a", 9), goneOf("a", 1), dropOf("b")}))...), toldHall()},
		{"bytes behind the last frame", append(logOf(recs...), 0, 3, 2, 1, 'a'), toldHall()},
		{"five queues, and more items than Limit", logOf(bytesOf([]api.Entry{makeOf("a", 0), makeOf("b", 0), makeOf("c", 0), makeOf("d", 0), makeOf("e", 0), putOf("e", 3, api.Note{}), putOf("e", 1, api.Note{})})...),
			api.Hall{Next: 4, Queues: []api.Queue{{Name: "a"}, {Name: "b"}, {Name: "c"}, {Name: "d"}, {Name: "e", Items: []api.Item{{ID: 3}, {ID: 1}}}}}},
		{"a queue that goes and comes", logOf(bytesOf([]api.Entry{makeOf("a", 1), makeOf("b", 2), putOf("a", 4, letter('x')), dropOf("a"), makeOf("a", 3), putOf("b", 5, letter('y')), putOf("a", 6, letter('z'))})...),
			api.Hall{Next: 7, Queues: []api.Queue{{Name: "b", Limit: 2, Items: []api.Item{{ID: 5, Note: letter('y')}}}, {Name: "a", Limit: 3, Items: []api.Item{{ID: 6, Note: letter('z')}}}}}},
	}
	for _, c := range tests {
		t.Run(c.name, func(t *testing.T) {
			given := withRoom(c.b, roomByte)
			checkHall(t, journal.Replay(given), c.want)
			if !bytes.Equal(given, c.b) || behind(given) != roomByte {
				t.Errorf("Replay changed what it was handed")
			}
		})
	}
}

// A byte that is turned, or lost, ends what is read: what stands ahead of it is there, and nothing is half.
func TestReplayOfAPart(t *testing.T) {
	recs := bytesOf(told())
	b := logOf(recs...)
	var ahead []api.Hall
	h := api.Hall{}
	for at, rec := range recs {
		for range len(rec) + 4 {
			ahead = append(ahead, h)
		}
		h = journal.Apply(h, told()[at])
	}
	for at, want := range ahead {
		checkHall(t, journal.Replay(b[:at]), want)
		turned := bytes.Clone(b)
		turned[at] ^= 1
		checkHall(t, journal.Replay(turned), want)
	}
}

func TestReplaySharesNothing(t *testing.T) {
	given := withRoom(logOf(bytesOf(told())...), roomByte)
	was := bytes.Clone(given)
	h := journal.Replay(given)
	spoilHall(journal.Replay(given))
	if !bytes.Equal(given, was) || behind(given) != roomByte {
		t.Errorf("what was handed in changed with the hall: %q", given)
	}
	spoilBytes(given)
	checkHall(t, h, toldHall())
}

// A long journal is gone through in one way: what each entry costs does not hang on how many there were.
func TestReplayOfManyEntries(t *testing.T) {
	const many = 20000
	var recs [][]byte
	name := func(k int) string { return string([]byte{byte(k >> 8), byte(k)}) }
	for k := range many {
		recs = append(recs, journal.Bytes(makeOf(name(k), k%256)), journal.Bytes(putOf(name(k), k, api.Note{})), journal.Bytes(putOf(name(0), k, letter('x'))))
	}
	h := journal.Replay(logOf(recs...))
	if len(h.Queues) != many || h.Next != many || len(h.Queues[0].Items) != many+1 || len(h.Queues[many-1].Items) != 1 || h.Queues[many-1].Limit != (many-1)%256 {
		t.Errorf("%d queues come back, Next %d", len(h.Queues), h.Next)
	}
}

func checkLog(t *testing.T, got api.Log, err api.Errno, want api.Log, wantErr api.Errno) {
	t.Helper()
	if err != wantErr || got.Sure != want.Sure || !bytes.Equal(got.Bytes, want.Bytes) {
		t.Errorf("the log is %v, %d, not %v, %d", got, err, want, wantErr)
	}
}

// E1: Write.
func TestWrite(t *testing.T) {
	old := logOf([]byte("old"))
	for _, es := range [][]api.Entry{nil, {}, told()[:1], told(), entries()} {
		l := api.Log{Bytes: withRoom(old, roomByte), Sure: 3}
		given := roomyEntries(es)
		got, err := journal.Write(l, given)
		checkLog(t, got, err, api.Log{Bytes: append(bytes.Clone(old), logOf(bytesOf(es)...)...), Sure: 3}, api.OK)
		recs, n := store.Records(got.Bytes)
		if n != len(got.Bytes) || len(recs) != len(es)+1 {
			t.Errorf("%d records of %d bytes are written, of %d entries", len(recs), n, len(es))
		}
		checkEntries(t, given, es)
		if !bytes.Equal(l.Bytes, old) || behind(l.Bytes) != roomByte || !sameEntry(behind(given), roomEntry) {
			t.Errorf("Write changed what it was handed")
		}
	}
}

// E1: all entries have room, or none is written.
func TestWriteAtTheEdge(t *testing.T) {
	es := []api.Entry{makeOf("a", 1), dropOf("a")}
	room := api.MaxLog - len(logOf(bytesOf(es)...))
	full := api.Log{Bytes: make([]byte, room), Sure: 5}
	got, err := journal.Write(full, es)
	checkLog(t, got, err, api.Log{Bytes: append(make([]byte, room), logOf(bytesOf(es)...)...), Sure: 5}, api.OK)

	for _, more := range []int{1, 7, 15} {
		got, err = journal.Write(api.Log{Bytes: make([]byte, room+more), Sure: room}, es)
		checkLog(t, got, err, api.Log{}, api.ErrFull)
	}
	got, err = journal.Write(api.Log{Bytes: make([]byte, api.MaxLog)}, nil)
	checkLog(t, got, err, api.Log{Bytes: make([]byte, api.MaxLog)}, api.OK)
}

func TestWriteSharesNothing(t *testing.T) {
	for _, es := range [][]api.Entry{nil, told()} {
		l := api.Log{Bytes: withRoom([]byte("log"), roomByte), Sure: 3}
		given := roomyEntries(es)
		got, _ := journal.Write(l, given)
		want := bytes.Clone(got.Bytes)
		spoilBytes(l.Bytes)
		spoilEntries(given)
		if !bytes.Equal(got.Bytes, want) {
			t.Errorf("the log changed with what it was made of: %q", got.Bytes)
		}
		l = api.Log{Bytes: withRoom([]byte("log"), roomByte), Sure: 3}
		got, _ = journal.Write(l, nil)
		spoilBytes(got.Bytes)
		if string(l.Bytes) != "log" || behind(l.Bytes) != roomByte {
			t.Errorf("what was handed in changed with the log: %q", l.Bytes)
		}
	}
}

// E1: Short.
func TestShort(t *testing.T) {
	tests := []struct {
		h    api.Hall
		want []api.Entry
	}{
		{api.Hall{}, nil},
		{api.Hall{Next: 500, Queues: []api.Queue{}}, nil},
		{toldHall(), []api.Entry{makeOf("a", 4), putOf("a", 2, letter('z'))}},
		{sample(), []api.Entry{
			makeOf("a", 8), putOf("a", 5, letter('p')), putOf("a", 2, letter('q')), putOf("a", 5, letter('r')), putOf("a", 7, letter('s')),
			makeOf("b", 1), putOf("b", 5, letter('t')),
		}},
		{api.Hall{Queues: []api.Queue{{Name: "x", Limit: 255}, {Items: []api.Item{{}}}, {Name: "y"}}}, []api.Entry{makeOf("x", 255), makeOf("", 0), putOf("", 0, api.Note{}), makeOf("y", 0)}},
	}
	for _, c := range tests {
		given := roomyHall(c.h)
		checkEntries(t, journal.Short(given), c.want)
		checkOnlyRead(t, given, c.h)
	}
}

func TestShortSharesNothing(t *testing.T) {
	given := roomyHall(sample())
	want := journal.Short(sample())
	es := journal.Short(given)
	spoilEntries(journal.Short(given))
	checkOnlyRead(t, given, sample())
	spoilHall(given)
	checkEntries(t, es, want)

	shared := letter('m')
	es = journal.Short(api.Hall{Queues: []api.Queue{{Items: []api.Item{{Note: shared}, {Note: shared}}}}})
	spoilNote(es[1].Note)
	checkEntries(t, es[2:], []api.Entry{putOf("", 0, letter('m'))})
}

// model keeps items by queue and number of coming: another way to what entries make.
type model struct {
	born   map[string]int
	limits map[string]int
	items  map[string][]api.Item
	next   int
}

func (m *model) apply(e api.Entry, step int) {
	_, has := m.born[e.Queue]
	if e.Kind == 1 && !has {
		m.born[e.Queue], m.limits[e.Queue], m.items[e.Queue] = step, e.N, nil
	}
	if !has {
		return
	}
	switch e.Kind {
	case 2:
		delete(m.born, e.Queue)
	case 3:
		m.items[e.Queue] = append(m.items[e.Queue], api.Item{ID: e.ID, Note: e.Note})
		if m.next <= e.ID {
			m.next = e.ID + 1
		}
	case 4:
		var left []api.Item
		for _, i := range m.items[e.Queue] {
			if i.ID != e.ID {
				left = append(left, i)
			}
		}
		m.items[e.Queue] = left
	}
}

func (m *model) hall() api.Hall {
	names := slices.SortedFunc(maps.Keys(m.born), func(a, b string) int { return m.born[a] - m.born[b] })
	h := api.Hall{Next: m.next}
	for _, name := range names {
		h.Queues = append(h.Queues, api.Queue{Name: name, Limit: m.limits[name], Items: m.items[name]})
	}
	return h
}

// entryBy makes an entry of two bytes.
func entryBy(c, d byte) api.Entry {
	name := string(rune('a' + c%6))
	switch c / 6 % 9 {
	case 0, 1:
		return makeOf(name, int(d))
	case 2:
		return dropOf(name)
	case 3, 4, 5:
		return putOf(name, int(d%16)*(1+int(c)), letter(d))
	case 6, 7:
		return goneOf(name, int(d%16)*(1+int(c)))
	}
	return api.Entry{Kind: int(d), Queue: name, ID: int(d), N: 1}
}

// walk holds Apply, Replay, Write and Short against the model, and against each other, entry by entry.
func walk(t *testing.T, steps []byte) {
	m := &model{born: map[string]int{}, limits: map[string]int{}, items: map[string][]api.Item{}}
	h, l := api.Hall{}, api.Log{}
	for at := 0; at+1 < len(steps); at += 2 {
		e := entryBy(steps[at], steps[at+1])
		next, err := journal.Write(l, []api.Entry{e})
		if err != api.OK {
			checkLog(t, next, err, api.Log{}, api.ErrFull)
			break
		}
		l = next
		h = journal.Apply(h, e)
		m.apply(e, at)
		checkHall(t, h, m.hall())
		checkHall(t, journal.Replay(l.Bytes), h)
		checkShort(t, h)
		if t.Failed() {
			t.Fatalf("step %d: %v", at/2, e)
		}
	}
}

// checkShort: written anew it is the same, but that Next is no higher than items ask for.
func checkShort(t *testing.T, h api.Hall) {
	t.Helper()
	want := hall.Plain(h)
	want.Next = 0
	for _, q := range h.Queues {
		for _, i := range q.Items {
			want.Next = max(want.Next, i.ID+1)
		}
	}
	checkHall(t, journal.Replay(logOf(bytesOf(journal.Short(h))...)), want)
}

func FuzzEntries(f *testing.F) {
	f.Add([]byte{})
	for seed := range 40 {
		var steps []byte
		x := uint32(seed*7919 + 1)
		for range 500 {
			x = x*1664525 + 1013904223
			steps = append(steps, byte(x>>24))
		}
		f.Add(steps)
	}
	f.Fuzz(walk)
}

// What halls tell is what they did: their journal brings back all but who was given what.
func TestHallsComeBack(t *testing.T) {
	h, l := api.Hall{}, api.Log{}
	done := func(x api.Hall, es []api.Entry, err api.Errno) {
		t.Helper()
		if err != api.OK {
			t.Fatalf("the hall tells %d", err)
		}
		h = x
		l, err = journal.Write(l, es)
		if err != api.OK {
			t.Fatalf("Write tells %d", err)
		}
		checkHall(t, journal.Replay(l.Bytes), hall.Plain(h))
		checkShort(t, h)
	}
	tagOf := func(name string) api.Tag {
		x, i, _ := hall.Take(h, name, 3)
		h = x
		return api.Tag{Queue: name, ID: i.ID, Turn: i.Turn}
	}
	done(hall.Make(h, "work", 3))
	done(hall.Make(h, "dead", 2))
	for c := range byte(3) {
		done(hall.Put(h, "work", letter('a'+c)))
	}
	for range 3 {
		done(hall.Back(h, tagOf("work")))
	}
	done(hall.Done(h, tagOf("dead")))
	tagOf("work")
	x, es := hall.Tick(h, 8)
	done(x, es, api.OK)
	done(hall.Put(h, "work", largest()))
	done(hall.Purge(h, "work"))
	done(hall.Drop(h, "dead"))
	checkHall(t, h, api.Hall{Next: 5, Queues: []api.Queue{{Name: "work", Limit: 3}}})
}
