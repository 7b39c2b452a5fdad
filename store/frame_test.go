package store_test

import (
	"bytes"
	"slices"
	"testing"

	"trivetgate/store"
)

// roomy answers b in a list that has spare room, filled with what nobody may look at or change.
func roomy(b []byte) []byte {
	return append(append([]byte{}, b...), 0xAA, 0xAA, 0xAA, 0xAA)[:len(b)]
}

func checkRoom(t *testing.T, b []byte) {
	t.Helper()
	if room := b[:len(b)+4][len(b):]; !bytes.Equal(room, []byte{0xAA, 0xAA, 0xAA, 0xAA}) {
		t.Errorf("the spare room was changed: %v", room)
	}
}

func framesOf(recs ...[]byte) []byte {
	var out []byte
	for _, rec := range recs {
		out = append(out, store.Frame(rec)...)
	}
	return out
}

func sameRecords(a, b [][]byte) bool {
	return slices.EqualFunc(a, b, bytes.Equal)
}

func checkRecords(t *testing.T, b []byte, want [][]byte, size int) {
	t.Helper()
	recs, n := store.Records(b)
	if n != size || !sameRecords(recs, want) {
		t.Errorf("Records are %v in %d bytes, not %v in %d", recs, n, want, size)
	}
}

// B1: Sum.
func TestSum(t *testing.T) {
	all := make([]byte, 256)
	for i := range all {
		all[i] = byte(i)
	}
	tests := []struct {
		b    []byte
		want int
	}{
		{nil, 7},
		{[]byte{}, 7},
		{[]byte{0}, 232},
		{[]byte{255}, 487},
		{[]byte("ab"), 10956},
		{[]byte("ba"), 10988},
		{[]byte("hello"), 24021},
		{[]byte{1, 245, 227}, 65520},
		{[]byte{1, 245, 228}, 0},
		{[]byte{1, 245, 229}, 1},
		{all, 55540},
		{make([]byte, 300), 42730},
		{bytes.Repeat([]byte{255}, 70000), 42449},
	}
	for _, c := range tests {
		if got := store.Sum(roomy(c.b)); got != c.want {
			t.Errorf("Sum of %d bytes is %d, not %d", len(c.b), got, c.want)
		}
	}
}

// B1: Frame.
func TestFrame(t *testing.T) {
	tests := []struct {
		rec, want []byte
	}{
		{nil, []byte{0, 0, 29, 233}},
		{[]byte{}, []byte{0, 0, 29, 233}},
		{[]byte("q"), []byte{0, 1, 'q', 219, 201}},
		{[]byte("ab"), []byte{0, 2, 'a', 'b', 89, 33}},
		{[]byte{0, 255}, []byte{0, 2, 0, 255, 77, 61}},
	}
	for _, c := range tests {
		given := roomy(c.rec)
		if got := store.Frame(given); !bytes.Equal(got, c.want) {
			t.Errorf("Frame of %v is %v, not %v", c.rec, got, c.want)
		}
		checkRoom(t, given)
	}
}

func TestFrameOfLongRecords(t *testing.T) {
	tests := []struct {
		size        int
		front, back []byte
	}{
		{255, []byte{0, 255}, []byte{127, 26}},
		{256, []byte{1, 0}, []byte{198, 170}},
		{65535, []byte{255, 255}, []byte{26, 140}},
	}
	for _, c := range tests {
		rec := bytes.Repeat([]byte("x"), c.size)
		want := slices.Concat(c.front, rec, c.back)
		if got := store.Frame(rec); !bytes.Equal(got, want) {
			t.Errorf("Frame of %d bytes is not as it must be", c.size)
		}
		checkRecords(t, want, [][]byte{rec}, c.size+4)
	}
}

func TestFrameOfTooLongARecord(t *testing.T) {
	for _, size := range []int{65536, 65537, 1 << 18} {
		if got := store.Frame(make([]byte, size)); len(got) != 0 {
			t.Errorf("Frame of %d bytes has %d bytes", size, len(got))
		}
	}
}

func TestFrameSharesNothing(t *testing.T) {
	given := roomy([]byte("ab"))
	got := store.Frame(given)
	given[0] = 'z'
	if !bytes.Equal(got, []byte{0, 2, 'a', 'b', 89, 33}) {
		t.Errorf("the frame changed with its record: %v", got)
	}
}

// B1: Records.
func TestRecords(t *testing.T) {
	long := bytes.Repeat([]byte{7}, 300)
	for _, recs := range [][][]byte{
		nil,
		{nil},
		{nil, {}, nil},
		{[]byte("ab"), nil},
		{[]byte("xyz"), {0, 255}, nil, long, []byte("q")},
	} {
		b := roomy(framesOf(recs...))
		checkRecords(t, b, recs, len(b))
		checkRoom(t, b)
	}
}

func TestRecordsOfFramesCutShort(t *testing.T) {
	recs := [][]byte{[]byte("ab"), nil, bytes.Repeat([]byte{7}, 256), []byte("q")}
	b := framesOf(recs...)
	for k := range b {
		whole, size := 0, 0
		for whole < len(recs) && size+len(recs[whole])+4 <= k {
			size += len(recs[whole]) + 4
			whole++
		}
		checkRecords(t, b[:k], recs[:whole], size) // the rest of b is spare room, not to be looked at
	}
}

func TestRecordsFindsAnyByteTurned(t *testing.T) {
	recs := [][]byte{[]byte("ab"), nil, []byte("xyz")}
	b := framesOf(recs...)
	ends := []int{6, 10, 17}
	for k := range b {
		whole := 0
		for ends[whole] <= k {
			whole++
		}
		size := 0
		if whole > 0 {
			size = ends[whole-1]
		}
		for turn := 1; turn < 256; turn++ {
			c := bytes.Clone(b)
			c[k] ^= byte(turn)
			checkRecords(t, c, recs[:whole], size)
		}
	}
}

func TestRecordsStopsWhereItMust(t *testing.T) {
	ab := store.Frame([]byte("ab"))
	q := store.Frame([]byte("q"))
	tests := []struct {
		name string
		b    []byte
		want [][]byte
		size int
	}{
		{"one byte", []byte{0}, nil, 0},
		{"three bytes", []byte{0, 0, 29}, nil, 0},
		{"noughts", make([]byte, 40), nil, 0},
		{"a length and no more", []byte{255, 255}, nil, 0},
		{"too great a length", slices.Concat(ab, []byte{255, 255}, q), [][]byte{[]byte("ab")}, 6},
		{"the sum of the record alone", []byte{0, 1, 'q', 1, 89}, nil, 0},
		{"the sum the other way round", []byte{0, 1, 'q', 201, 219}, nil, 0},
		{"a byte between", slices.Concat(ab, []byte{9}, q), [][]byte{[]byte("ab")}, 6},
		{"a broken one between", slices.Concat(ab, []byte{0, 1, 'r', 219, 201}, q), [][]byte{[]byte("ab")}, 6},
		{"bytes behind", slices.Concat(ab, q, []byte("\x00\x01z")), [][]byte{[]byte("ab"), []byte("q")}, 11},
	}
	for _, c := range tests {
		t.Run(c.name, func(t *testing.T) { checkRecords(t, c.b, c.want, c.size) })
	}
}

func TestRecordsSharesNothing(t *testing.T) {
	given := roomy(framesOf([]byte("ab"), nil, []byte("xyz")))
	was := bytes.Clone(given)
	recs, _ := store.Records(given)
	for i := range given {
		given[i] = 9
	}
	if want := [][]byte{[]byte("ab"), nil, []byte("xyz")}; !sameRecords(recs, want) {
		t.Errorf("the records changed with what they were read from: %v", recs)
	}
	copy(given, was)
	recs, _ = store.Records(given)
	recs[0][0], recs[2][0] = 1, 1
	for i := range recs {
		_ = append(recs[i], 5, 5, 5, 5, 5)
	}
	if !bytes.Equal(given, was) || recs[2][1] != 'y' || recs[0][1] != 'b' {
		t.Errorf("what was handed in, or a neighbour, changed with a record: %v, %v", given, recs)
	}
	checkRoom(t, given)
}

// honest: what Records tells of b is the frames that b begins with, all of them.
func honest(t *testing.T, b []byte) {
	t.Helper()
	recs, n := store.Records(b)
	if n < 0 || n > len(b) || !bytes.Equal(framesOf(recs...), b[:n]) {
		t.Fatalf("Records of %v tells %v in %d bytes", b, recs, n)
	}
	if rest := b[n:]; len(rest) >= 4 {
		size := int(rest[0])<<8 | int(rest[1])
		if len(rest) >= size+4 && bytes.HasPrefix(rest, store.Frame(rest[2:2+size])) {
			t.Fatalf("Records of %v stops at %d, and a whole frame is there", b, n)
		}
	}
}

func FuzzRecords(f *testing.F) {
	f.Add([]byte{})
	f.Add(framesOf([]byte("ab"), nil, []byte("xyz")))
	f.Add([]byte{0, 0, 29, 233, 0, 1, 'q', 219, 202})
	f.Add(append(framesOf(nil, nil), 0, 2, 0))
	f.Fuzz(honest)
}
