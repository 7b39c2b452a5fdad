package store_test

import (
	"bytes"
	"math"
	"slices"
	"testing"

	"trivetgate/api"
	"trivetgate/store"
)

// sample is a log of five records in 32 bytes, the first two of which (10 bytes) are sure.
func sample() api.Log {
	return api.Log{Bytes: roomy(framesOf([]byte("ab"), nil, []byte("xyz"), []byte{0, 255}, []byte("hello"))), Sure: 10}
}

func checkLog(t *testing.T, got api.Log, want []byte, sure int) {
	t.Helper()
	if !bytes.Equal(got.Bytes, want) || got.Sure != sure {
		t.Errorf("the log is %v, sure %d, not %v, sure %d", got.Bytes, got.Sure, want, sure)
	}
}

// checkApart: l, answered for given, has memory of its own.
func checkApart(t *testing.T, given, l api.Log) {
	t.Helper()
	was := bytes.Clone(given.Bytes)
	answered := bytes.Clone(l.Bytes)
	for i := range l.Bytes {
		l.Bytes[i] ^= 1
	}
	_ = append(l.Bytes, 1)
	if !bytes.Equal(given.Bytes, was) {
		t.Error("what was handed in changed with what was answered")
	}
	checkRoom(t, given.Bytes)
	copy(l.Bytes, answered)
	for i := range given.Bytes {
		given.Bytes[i] ^= 1
	}
	if !bytes.Equal(l.Bytes, answered) {
		t.Error("what was answered changed with what was handed in")
	}
}

// B1: Own.
func TestOwn(t *testing.T) {
	for _, l := range []api.Log{{Bytes: roomy(nil)}, sample(), {Bytes: roomy([]byte("no frames")), Sure: 9}, {Bytes: roomy(make([]byte, 7000)), Sure: 6999}} {
		want := bytes.Clone(l.Bytes)
		c := store.Own(l)
		checkLog(t, c, want, l.Sure)
		checkApart(t, l, c)
	}
	checkLog(t, store.Own(api.Log{}), nil, 0)
}

// B1: Append.
func TestAppend(t *testing.T) {
	tests := []struct {
		name string
		l    api.Log
		recs [][]byte
		want []byte
	}{
		{"nothing to nothing", api.Log{}, nil, nil},
		{"nothing to no bytes", api.Log{Bytes: []byte{}}, [][]byte{}, nil},
		{"a record and an empty one", api.Log{}, [][]byte{[]byte("ab"), nil}, []byte{0, 2, 'a', 'b', 89, 33, 0, 0, 29, 233}},
		{"nothing to a log", sample(), nil, sample().Bytes},
		{"behind", sample(), [][]byte{[]byte("q")}, append(sample().Bytes, 0, 1, 'q', 219, 201)},
		{"in their order", sample(), [][]byte{[]byte("q"), {}, []byte("ab")}, append(sample().Bytes, framesOf([]byte("q"), nil, []byte("ab"))...)},
		{"behind what is no frame", api.Log{Bytes: []byte{9}, Sure: 1}, [][]byte{nil}, []byte{9, 0, 0, 29, 233}},
	}
	for _, c := range tests {
		t.Run(c.name, func(t *testing.T) {
			got, err := store.Append(c.l, c.recs)
			if err != api.OK {
				t.Fatalf("Append tells %d", err)
			}
			checkLog(t, got, c.want, c.l.Sure)
		})
	}
}

func TestAppendThereAndBack(t *testing.T) {
	recs := [][]byte{[]byte("q"), nil, bytes.Repeat([]byte("long"), 1000), {0}}
	l, err := store.Append(api.Log{}, recs)
	if err != api.OK {
		t.Fatalf("Append tells %d", err)
	}
	checkRecords(t, l.Bytes, recs, len(l.Bytes))
}

func TestAppendUpToMaxLog(t *testing.T) {
	full := api.Log{Bytes: make([]byte, api.MaxLog), Sure: 77}
	over := api.Log{Bytes: make([]byte, api.MaxLog+1), Sure: 77}
	tests := []struct {
		name string
		l    api.Log
		recs [][]byte
		want api.Errno
	}{
		{"all of it", api.Log{}, [][]byte{make([]byte, 5996)}, api.OK},
		{"a byte more", api.Log{}, [][]byte{make([]byte, 5997)}, api.ErrFull},
		{"what is left", sample(), [][]byte{make([]byte, 5964)}, api.OK},
		{"a byte more than is left", sample(), [][]byte{make([]byte, 5965)}, api.ErrFull},
		{"in two records", sample(), [][]byte{make([]byte, 3000), make([]byte, 2960)}, api.OK},
		{"a byte more in two records", sample(), [][]byte{make([]byte, 3000), make([]byte, 2961)}, api.ErrFull},
		{"many records of none", api.Log{}, make([][]byte, 1500), api.OK},
		{"one of them more", api.Log{}, make([][]byte, 1501), api.ErrFull},
		{"nothing to a full log", full, nil, api.OK},
		{"a record of none to a full log", full, [][]byte{nil}, api.ErrFull},
		{"nothing to more than a full log", over, nil, api.ErrFull},
		{"the longest record", api.Log{}, [][]byte{make([]byte, 65535)}, api.ErrFull},
		{"too long a record", api.Log{}, [][]byte{make([]byte, 65536)}, api.ErrMuch},
		{"more than that", api.Log{}, [][]byte{make([]byte, 1<<17)}, api.ErrMuch},
		{"too long a record, to more than a full log", over, [][]byte{make([]byte, 65536)}, api.ErrMuch},
		{"too long a record, behind what is too much", api.Log{}, [][]byte{make([]byte, 65535), make([]byte, 65536)}, api.ErrMuch},
		{"too long a record, ahead of others", api.Log{}, [][]byte{make([]byte, 65536), nil}, api.ErrMuch},
	}
	for _, c := range tests {
		t.Run(c.name, func(t *testing.T) {
			got, err := store.Append(c.l, c.recs)
			if err != c.want {
				t.Fatalf("Append tells %d, not %d", err, c.want)
			}
			if err != api.OK {
				checkLog(t, got, nil, 0)
				return
			}
			checkLog(t, got, slices.Concat(c.l.Bytes, framesOf(c.recs...)), c.l.Sure)
		})
	}
}

func TestAppendSharesNothing(t *testing.T) {
	for _, recs := range [][][]byte{nil, {nil}, {roomy([]byte("q")), roomy(nil)}} {
		given := sample()
		l, _ := store.Append(given, recs)
		checkApart(t, given, l)
	}
	recs := [][]byte{roomy([]byte("q")), roomy(nil), nil}
	l, _ := store.Append(api.Log{}, recs[:2])
	recs[0][0] = 'z'
	checkLog(t, l, framesOf([]byte("q"), nil), 0)
	checkRoom(t, recs[0])
	checkRoom(t, recs[1])
	if recs[2] != nil {
		t.Error("the spare room behind the records was changed")
	}
}

// B1: Sync.
func TestSync(t *testing.T) {
	for _, l := range []api.Log{{Bytes: roomy(nil)}, sample(), {Bytes: roomy([]byte("no frames"))}, {Bytes: roomy([]byte("ab")), Sure: 2}} {
		want := bytes.Clone(l.Bytes)
		got := store.Sync(l)
		checkLog(t, got, want, len(want))
		checkApart(t, l, got)
	}
	checkLog(t, store.Sync(api.Log{}), nil, 0)
}

// B1: Crash.
func TestCrash(t *testing.T) {
	all := sample().Bytes
	for keep := -3; keep < 40; keep++ {
		left := 10
		for _, end := range []int{17, 23, 32} {
			if keep >= end-10 {
				left = end
			}
		}
		given := sample()
		got := store.Crash(given, keep)
		checkLog(t, got, all[:left], left)
		checkApart(t, given, got)
	}
}

func TestCrashOfAnyKeep(t *testing.T) {
	all := sample().Bytes
	for _, keep := range []int{math.MinInt, math.MinInt + 1, -1} {
		checkLog(t, store.Crash(sample(), keep), all[:10], 10)
	}
	for _, keep := range []int{1 << 62, math.MaxInt - 10, math.MaxInt - 9, math.MaxInt} {
		checkLog(t, store.Crash(sample(), keep), all, len(all))
	}
}

func TestCrashKeepsWholeFramesAlone(t *testing.T) {
	whole := framesOf([]byte("ab"), nil)
	broken := slices.Concat(whole, []byte{0, 1, 'r', 219, 201}, whole)
	tests := []struct {
		name string
		l    api.Log
		keep int
		want []byte
	}{
		{"nothing", api.Log{}, 5, nil},
		{"none sure, none kept", api.Log{Bytes: whole}, 0, nil},
		{"none sure, one kept", api.Log{Bytes: whole}, 6, whole[:6]},
		{"sure within a frame", api.Log{Bytes: whole, Sure: 8}, 0, whole[:6]},
		{"sure within a frame, the rest kept", api.Log{Bytes: whole, Sure: 8}, 2, whole},
		{"a broken frame is kept", api.Log{Bytes: broken, Sure: 10}, 99, whole},
		{"a broken frame is sure", api.Log{Bytes: broken, Sure: 20}, 0, whole},
		{"no frame", api.Log{Bytes: []byte("no frames"), Sure: 9}, 0, nil},
		{"all sure", api.Log{Bytes: whole, Sure: 10}, 0, whole},
	}
	for _, c := range tests {
		t.Run(c.name, func(t *testing.T) {
			checkLog(t, store.Crash(c.l, c.keep), c.want, len(c.want))
		})
	}
}

func TestCrashLooksAtNoSpareRoom(t *testing.T) {
	whole := framesOf([]byte("ab"), nil)
	for _, keep := range []int{4, 5, math.MaxInt} {
		checkLog(t, store.Crash(api.Log{Bytes: whole[:6], Sure: 2}, keep), whole[:6], 6)
	}
}

// Nothing is promised of a log whose Sure is none, but that is no reason to panic.
func TestCrashOfWrongLogsAnswers(t *testing.T) {
	for _, sure := range []int{math.MinInt, -1, 33, math.MaxInt} {
		for _, keep := range []int{math.MinInt, 0, 1, math.MaxInt} {
			l := sample()
			l.Sure = sure
			if got := store.Crash(l, keep); got.Sure != len(got.Bytes) {
				t.Errorf("of %d bytes %d are sure", len(got.Bytes), got.Sure)
			}
		}
	}
}
