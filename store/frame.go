package store

// What a frame has around its record (two bytes in front, two behind), and how many bytes are too many to be told in two.
const (
	around  = 4
	tooLong = 1 << 16
)

// Sum tells the sum by which a frame is known to be whole.
func Sum(b []byte) int {
	sum := 7
	for _, c := range b {
		sum = (sum*33 + int(c) + 1) % 65521
	}
	return sum
}

// Frame writes a record as it stands in a log. One that is too long for that has no frame: its length would be told wrongly.
func Frame(rec []byte) []byte {
	if len(rec) >= tooLong {
		return nil
	}
	return appendFrame(make([]byte, 0, len(rec)+around), rec)
}

func appendFrame(out, rec []byte) []byte {
	start := len(out)
	out = appendPair(out, len(rec))
	out = append(out, rec...)
	return appendPair(out, Sum(out[start:]))
}

func appendPair(out []byte, n int) []byte {
	return append(out, byte(n>>8), byte(n))
}

func pair(b []byte) int {
	return int(b[0])<<8 | int(b[1])
}

// Records reads the frames that b begins with, and tells how many bytes they have.
func Records(b []byte) ([][]byte, int) {
	var recs [][]byte
	n := 0
	for {
		rec, whole := first(b[n:])
		if !whole {
			return recs, n
		}
		recs = append(recs, copied(rec))
		n += len(rec) + around
	}
}

// first gives what is in the frame that b begins with, a piece of b: whoever keeps it makes a copy.
func first(b []byte) ([]byte, bool) {
	if len(b) < around {
		return nil, false
	}
	end := 2 + pair(b)
	if len(b) < end+2 || pair(b[end:]) != Sum(b[:end]) {
		return nil, false
	}
	return b[2:end], true
}
