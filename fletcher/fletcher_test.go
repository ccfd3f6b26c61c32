package fletcher

import (
	"bytes"
	"hash/adler32"
	"slices"
	"strings"
	"testing"
)

// told is what the document's words come to: both sums as wholes, each reduced once.
func told(sum uint32, b []byte) uint32 {
	n := uint64(len(b))
	low := uint64(sum & 0xffff)
	high := uint64(sum>>16) + n*low
	for i, c := range b {
		low += uint64(c)
		high += (n - uint64(i)) * uint64(c) // a byte is added again with each one that follows it
	}
	return uint32(high%65521)<<16 | uint32(low%65521)
}

// texts are all texts of at most n bytes of an alphabet, shorter ones first.
func texts(alphabet string, n int) []string {
	all := []string{""}
	for from := 0; n > 0; n-- {
		to := len(all)
		for ; from < to; from++ {
			for k := range len(alphabet) {
				all = append(all, all[from]+alphabet[k:k+1])
			}
		}
	}
	return all
}

// mixed is a text of n bytes that has all of them, in no plain order.
func mixed(n int) []byte {
	b := make([]byte, n)
	for i := range b {
		b[i] = byte(i*i*37 + i*11 + i>>8)
	}
	return b
}

// halves are halves near the edges of what a sum may be.
func halves() []uint32 {
	return []uint32{0, 1, 2, 14, 15, 254, 255, 256, 0x7fff, 0x8000, 65265, 65266, 65519, 65520, 65521, 65522, 65534, 65535}
}

// numbers are those that halves make: checksums, and numbers that are none.
func numbers() []uint32 {
	var all []uint32
	for _, high := range halves() {
		for _, low := range halves() {
			all = append(all, high<<16|low)
		}
	}
	return all
}

// short tells a text, if it isn't too long to be told.
func short(b []byte) []byte {
	return b[:min(len(b), 24)]
}

func checkSum(t testing.TB, b []byte, want uint32) {
	t.Helper()
	if s := Sum(b); s != want {
		t.Fatalf("Sum(%q.., %d bytes): %#08x; want %#08x", short(b), len(b), s, want)
	}
}

func checkMore(t testing.TB, sum uint32, b []byte, want uint32) {
	t.Helper()
	if s := More(sum, b); s != want {
		t.Fatalf("More(%#08x, %q.., %d bytes): %#08x; want %#08x", sum, short(b), len(b), s, want)
	}
}

func TestExamples(t *testing.T) {
	for _, c := range []struct {
		text string
		want uint32
	}{
		{"", 1},
		{"\x00", 0x00010001},
		{"a", 0x00620062},
		{"\xff", 0x01000100},
		{"\x00\x00", 0x00020001},
		{"ab", 0x012600c4},
		{"ba", 0x012700c4}, // the same bytes in another order
		{"abc", 0x024d0127},
		{"abc\x00", 0x03740127}, // a byte that is 0 counts too
		{"\x00abc", 0x024e0127},
		{"Wikipedia", 0x11e60398},
		{"message digest", 0x29750586},
		{"abcdefghijklmnopqrstuvwxyz", 0x90860b20},
		{strings.Repeat("1234567890", 8), 0x97b61069},
	} {
		checkSum(t, []byte(c.text), c.want)
		checkMore(t, 1, []byte(c.text), c.want)
	}
}

func TestNothing(t *testing.T) {
	for _, b := range [][]byte{nil, {}, mixed(5)[:0], mixed(5)[5:]} {
		checkSum(t, b, 1)
		for _, sum := range []uint32{0, 1, 0x11e60398, 65520<<16 | 65520} {
			checkMore(t, sum, b, sum)
		}
	}
}

func TestOneByte(t *testing.T) {
	for c := range uint32(256) {
		b := []byte{byte(c)}
		checkSum(t, b, (c+1)<<16|(c+1))
		checkMore(t, 0, b, c<<16|c)
		checkMore(t, 5<<16|3, b, (5+3+c)<<16|(3+c))
		for _, sum := range numbers() {
			checkMore(t, sum, b, told(sum, b))
		}
	}
}

func TestShortTexts(t *testing.T) {
	for _, s := range texts("\x00\x01\x7f\x80\xff", 6) {
		b := []byte(s)
		want := told(1, b)
		checkSum(t, b, want)
		if a := adler32.Checksum(b); a != want {
			t.Fatalf("the tests' own sum of %q: %#08x; the library's: %#08x", b, want, a)
		}
	}
}

// The lengths are those at which a sum reaches the modulus, or the width of an integer that isn't reduced in time.
func TestLongRuns(t *testing.T) {
	lengths := []int{
		22, 23, 255, 256, 257, 258, 361, 362, 363, 512, 513, 1024, 4096, 5551, 5552, 5553, 5803, 5804, 5805,
		10000, 32768, 65519, 65520, 65521, 65522, 65535, 65536, 65537, 131040, 131041, 131042, 131043, 1 << 18, 1<<20 + 3,
	}
	for _, c := range []byte{0, 1, 2, 127, 128, 254, 255} {
		for _, n := range lengths {
			b := bytes.Repeat([]byte{c}, n)
			want := told(1, b)
			checkSum(t, b, want)
			checkSum(t, b, adler32.Checksum(b))
			checkMore(t, 65520<<16|65520, b, told(65520<<16|65520, b))
			checkMore(t, 0xffffffff, b, told(0xffffffff, b))
		}
	}
	for _, n := range lengths {
		checkSum(t, mixed(n), adler32.Checksum(mixed(n)))
	}
}

// Of these runs the sums can be told by hand: as many bytes as the modulus bring both sums back to where they began.
func TestRunsByHand(t *testing.T) {
	for _, c := range []struct {
		c    byte
		n    int
		want uint32
	}{
		{0, 65519, 65519<<16 | 1},
		{0, 65520, 65520<<16 | 1},
		{0, 65521, 1}, // B is 0 again
		{0, 65522, 1<<16 | 1},
		{0, 2 * 65521, 1},
		{1, 65519, 65520<<16 | 65520}, // A and B are at their greatest
		{1, 65520, 65520 << 16},       // A is 0
		{1, 65521, 1},
		{1, 65522, 2<<16 | 2},
		{1, 2*65521 + 1, 2<<16 | 2},
		{255, 256, 2048<<16 | 65281}, // 256 + 255 * (1 + .. + 256) is 2048 more than 128 times the modulus
		{255, 257, 2063<<16 | 15},    // 1 + 255 * 257 is 65536
		{255, 65521, 1},
		{255, 2*65521 + 1, 256<<16 | 256},
	} {
		b := bytes.Repeat([]byte{c.c}, c.n)
		if told(1, b) != c.want {
			t.Errorf("%d times %d: %#08x; by hand: %#08x", c.n, c.c, told(1, b), c.want)
		}
		checkSum(t, b, c.want)
	}
}

func TestVeryLong(t *testing.T) {
	b := bytes.Repeat([]byte{255}, 1<<26)
	checkSum(t, b, adler32.Checksum(b))
	checkMore(t, 0xffffffff, b, told(0xffffffff, b))
}

func TestHalves(t *testing.T) {
	for _, c := range []struct {
		sum  uint32
		b    []byte
		want uint32
	}{
		{65520<<16 | 65520, nil, 65520<<16 | 65520},
		{65521<<16 | 65520, nil, 65520},
		{65520<<16 | 65521, nil, 65520 << 16},
		{65521<<16 | 65521, nil, 0},
		{65522<<16 | 65522, nil, 1<<16 | 1},
		{65535<<16 | 65535, nil, 14<<16 | 14},
		{65535 << 16, nil, 14 << 16},
		{65535, nil, 14},
		{65520<<16 | 65520, []byte{0}, 65519<<16 | 65520},
		{65520<<16 | 65520, []byte{1}, 65520 << 16},
		{65520<<16 | 65520, []byte{2}, 1},
		{65520<<16 | 65520, []byte{255}, 253<<16 | 254},
		{65520, []byte{0}, 65520<<16 | 65520},
		{1<<16 | 65520, []byte{0}, 65520},
		{65521, []byte{0}, 0},
		{65521 << 16, []byte{7}, 7<<16 | 7},
		{65535<<16 | 65535, []byte{0}, 28<<16 | 14},
		{65535<<16 | 65535, []byte{255}, 283<<16 | 269},
		{65266, []byte{255}, 0},
		{65265, []byte{255}, 65520<<16 | 65520},
	} {
		checkMore(t, c.sum, c.b, c.want)
	}
}

// All numbers are taken, one half at a time.
func TestEveryHalf(t *testing.T) {
	for x := range uint32(1 << 16) {
		for _, y := range []uint32{0, 1, 65520, 65521, 65535} {
			for _, sum := range []uint32{x<<16 | y, y<<16 | x} {
				checkMore(t, sum, nil, sum>>16%65521<<16|sum&0xffff%65521)
				checkMore(t, sum, []byte{255, 0, 3}, told(sum, []byte{255, 0, 3}))
			}
		}
	}
}

// A number that is no checksum counts as the one that it is reduced to.
func TestReduced(t *testing.T) {
	for _, sum := range numbers() {
		reduced := More(sum, nil)
		if reduced>>16 >= 65521 || reduced&0xffff >= 65521 {
			t.Fatalf("More(%#08x, nil): %#08x is no checksum", sum, reduced)
		}
		for _, b := range [][]byte{nil, {0}, {255}, mixed(300)} {
			checkMore(t, sum, b, More(reduced, b))
			checkMore(t, sum, b, told(sum, b))
		}
	}
}

// Every answer is a checksum: none of its halves is 65521 or more.
func TestAnswersAreReduced(t *testing.T) {
	sum := uint32(0xffffffff)
	for n := range 1 << 18 {
		sum = More(sum, []byte{byte(n * n >> 5)})
		if sum>>16 >= 65521 || sum&0xffff >= 65521 {
			t.Fatalf("%#08x after %d bytes is no checksum", sum, n+1)
		}
	}
}

// P3.2.
func TestPieces(t *testing.T) {
	for _, s := range texts("\x00a\xff", 7) {
		b := []byte(s)
		for k := range len(b) + 1 {
			checkMore(t, Sum(b[:k]), b[k:], Sum(b))
		}
	}
	for _, b := range [][]byte{mixed(1500), bytes.Repeat([]byte{255}, 1500), make([]byte, 1500)} {
		whole := adler32.Checksum(b)
		for k := range len(b) + 1 {
			checkMore(t, Sum(b[:k]), b[k:], whole)
			checkMore(t, More(Sum(b[:k/2]), b[k/2:k]), b[k:], whole)
		}
	}
}

func TestPiecesOfLongText(t *testing.T) {
	for _, b := range [][]byte{mixed(200000), bytes.Repeat([]byte{255}, 200000), bytes.Repeat([]byte{0}, 200000)} {
		whole := adler32.Checksum(b)
		for _, size := range []int{1, 2, 3, 255, 256, 257, 4096, 5552, 65520, 65521, 65522, 200000} {
			sum := Sum(nil)
			for piece := range slices.Chunk(b, size) {
				sum = More(More(sum, nil), piece)
			}
			if sum != whole {
				t.Errorf("in pieces of %d bytes: %#08x; want %#08x", size, sum, whole)
			}
		}
	}
}

func TestPiecesBehindAnyNumber(t *testing.T) {
	b := mixed(40)
	for _, sum := range numbers() {
		for k := range len(b) + 1 {
			checkMore(t, More(sum, b[:k]), b[k:], More(sum, b))
		}
	}
}

// differ fails if another byte at n leaves the sum of b as it is.
func differ(t *testing.T, b []byte, n int) {
	t.Helper()
	other := slices.Clone(b)
	var seen [256]uint32
	for c := range 256 {
		other[n] = byte(c)
		seen[c] = Sum(other)
	}
	slices.Sort(seen[:])
	if len(slices.Compact(seen[:])) != 256 {
		t.Fatalf("two of the bytes that may stand at %d in %q.. have the same sum", n, short(b))
	}
}

// P3.3.
func TestOneByteDiffers(t *testing.T) {
	for _, s := range texts("\x00a\xff", 4) {
		for n := range len(s) {
			differ(t, []byte(s), n)
		}
	}
	for _, size := range []int{31, 32, 255, 257, 258, 259, 600} {
		for _, b := range [][]byte{make([]byte, size), bytes.Repeat([]byte{255}, size), mixed(size)} {
			for n := range size {
				differ(t, b, n)
			}
		}
	}
}

// What stands as many bytes from the end as the modulus changes B no more: A alone tells it.
func TestOneByteDiffersInLongText(t *testing.T) {
	for _, b := range [][]byte{make([]byte, 2*65521+2), mixed(2*65521 + 2)} {
		for _, back := range []int{1, 2, 65520, 65521, 65522, 2 * 65521, 2*65521 + 1, 2*65521 + 2} {
			differ(t, b, len(b)-back)
		}
	}
}

// Rule 4: what is handed in is neither changed nor kept, and what lies behind its length is not read.
func TestMemory(t *testing.T) {
	b := mixed(64)
	before := slices.Clone(b)
	first, more := Sum(b[:20]), More(0xfff0fff1, b[:20])
	if !bytes.Equal(b, before) {
		t.Fatalf("an argument was changed: %v", b)
	}
	for i := 20; i < len(b); i++ {
		b[i] ^= 0xff
	}
	checkSum(t, b[:20], first)
	checkMore(t, 0xfff0fff1, b[:20], more)
	clear(b)
	checkSum(t, before[:20], first)
	checkSum(t, b[:20], 20<<16|1)
}

// P2 of the document: a call answers the same whatever was asked ahead of it, and on however many sides at once.
func TestSame(t *testing.T) {
	b := mixed(3000)
	want, wantMore := told(1, b), told(0xfffafffb, b)
	done := make(chan bool)
	for range 8 {
		go func() {
			same := true
			for k := range 50 {
				Sum(b[:k*7])
				same = same && Sum(b) == want
				More(uint32(k)*0x01010101, b[k:])
				same = same && More(0xfffafffb, b) == wantMore
			}
			done <- same
		}()
	}
	for range 8 {
		if !<-done {
			t.Error("a call answered otherwise than before")
		}
	}
}

// P1 of the document: every number and every text is answered.
func TestTotal(t *testing.T) {
	for _, b := range [][]byte{nil, {}, {0}, {255}, mixed(33), mixed(70000)} {
		for _, sum := range append(numbers(), 0x7fffffff, 0x80000000, 0xfffffffe, 0xffffffff) {
			checkMore(t, sum, b, told(sum, b))
		}
	}
}
