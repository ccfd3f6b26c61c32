package record

import (
	"bytes"
	"encoding/binary"
	"hash/adler32"
	"slices"
	"testing"

	"headgate/api"
)

// mixed is a text of n bytes that has all of them, in no plain order.
func mixed(n int) []byte {
	b := make([]byte, n)
	for i := range b {
		b[i] = byte(i*i*37 + i*11 + i>>8)
	}
	return b
}

// texts are all texts of at most n bytes of an alphabet, shorter ones first.
func texts(alphabet string, n int) []string {
	all := []string{""}
	for from := 0; n > 0; n-- {
		to := len(all)
		for ; from < to; from++ {
			for k := range len(alphabet) {
				all = append(all, all[from]+alphabet[k:k+1])
			}
		}
	}
	return all
}

// sealed are three bytes, their checksum with a record's, and the record: a frame, if the three are its header.
func sealed(header, b []byte) []byte {
	sum := adler32.Checksum(slices.Concat(header, b))
	return slices.Concat(header, binary.LittleEndian.AppendUint32(nil, sum), b)
}

// framed is the frame of a record, as the document's words tell it.
func framed(b []byte) []byte {
	less := len(b) - 1
	return sealed([]byte{0xa7, byte(less % 256), byte(less / 256)}, b)
}

// told is what Take is to answer, by the document's words.
func told(b []byte) ([]byte, int, api.Errno) {
	if len(b) > 0 && b[0] != 0xa7 || len(b) > 2 && b[2] >= 16 {
		return nil, 0, api.ErrRecord
	}
	if len(b) < 3 {
		return nil, 0, api.ErrShort
	}
	end := 7 + int(b[1]) + 256*int(b[2]) + 1
	if len(b) < end {
		return nil, 0, api.ErrShort
	}
	if !bytes.Equal(b[:end], framed(b[7:end])) {
		return nil, 0, api.ErrRecord
	}
	return b[7:end], end, api.OK
}

// with is a copy of b with another byte at n.
func with(b []byte, n int, c byte) []byte {
	x := slices.Clone(b)
	x[n] = c
	return x
}

// short tells a text, if it isn't too long to be told.
func short(b []byte) []byte {
	return b[:min(len(b), 24)]
}

func wrap(t testing.TB, b []byte) []byte {
	t.Helper()
	f, e := Wrap(b)
	if e != api.OK || len(f) != 7+len(b) {
		t.Fatalf("Wrap(%q.., %d bytes): %d bytes, %v", short(b), len(b), len(f), e)
	}
	return f
}

func checkTake(t testing.TB, b, want []byte, size int, err api.Errno) {
	t.Helper()
	r, n, e := Take(b)
	if !bytes.Equal(r, want) || n != size || e != err {
		t.Fatalf("Take(%q.., %d bytes): %q.. of %d bytes, %d, %v; want %q.. of %d bytes, %d, %v",
			short(b), len(b), short(r), len(r), n, e, short(want), len(want), size, err)
	}
}

func checkError(t testing.TB, b []byte, err api.Errno) {
	t.Helper()
	checkTake(t, b, nil, 0, err)
}

func checkTold(t testing.TB, b []byte) {
	t.Helper()
	r, n, e := told(b)
	checkTake(t, b, r, n, e)
}

func checkScan(t testing.TB, b []byte, want [][]byte, size int) {
	t.Helper()
	l, n := Scan(b)
	if n != size || !slices.EqualFunc(l, want, bytes.Equal) {
		t.Fatalf("Scan(%q.., %d bytes): %d records, %d; want %d records, %d", short(b), len(b), len(l), n, len(want), size)
	}
}

// isFrame tells whether the bytes are one frame as a whole.
func isFrame(b []byte) bool {
	_, n, e := Take(b)
	return e == api.OK && n == len(b)
}

// sizes are those of records at the edges of a record, and of a byte of the length.
func sizes() []int {
	return []int{1, 2, 3, 7, 8, 255, 256, 257, 258, 511, 512, 513, 3840, 3841, 4094, 4095, 4096}
}

// The checksums are worked out by hand.
func TestExamples(t *testing.T) {
	for _, c := range []struct {
		record, ahead string
	}{
		{"\x00", "\xa7\x00\x00\xa8\x00\xa0\x02"},
		{"\x01", "\xa7\x00\x00\xa9\x00\xa1\x02"},
		{"\xff", "\xa7\x00\x00\xa7\x01\x9f\x03"},
		{"hi", "\xa7\x01\x00\x7a\x01\x85\x04"},
		{string(make([]byte, 256)), "\xa7\xff\x00\xa7\x01\x05\xab"},
		{string(make([]byte, 257)), "\xa7\x00\x01\xa9\x00\xa2\xab"},
		{string(make([]byte, 4096)), "\xa7\xff\x0f\xb6\x01\x9a\x65"},
	} {
		want := []byte(c.ahead + c.record)
		if f := wrap(t, []byte(c.record)); !bytes.Equal(f, want) {
			t.Errorf("Wrap(%q..): %q..; want %q..", short([]byte(c.record)), short(f), short(want))
		}
		checkTake(t, want, []byte(c.record), len(want), api.OK)
		checkScan(t, want, [][]byte{[]byte(c.record)}, len(want))
	}
}

func TestEveryLength(t *testing.T) {
	for n := 1; n <= api.MaxRecord; n++ {
		b := mixed(n)
		f := wrap(t, b)
		if !bytes.Equal(f, framed(b)) {
			t.Fatalf("Wrap of %d bytes: %q..", n, short(f))
		}
		checkTake(t, f, b, 7+n, api.OK)
	}
}

func TestEveryByte(t *testing.T) {
	for c := range 256 {
		for _, n := range []int{1, 2, 300, 4096} {
			b := bytes.Repeat([]byte{byte(c)}, n)
			if f := wrap(t, b); !bytes.Equal(f, framed(b)) {
				t.Fatalf("Wrap of %d times %d: %q..", n, c, short(f))
			}
			checkTake(t, framed(b), b, 7+n, api.OK)
		}
	}
}

func TestWrapOfNoRecord(t *testing.T) {
	long := mixed(1 << 17)
	for _, b := range [][]byte{nil, {}, long[:0], long[7:7], long[:4097], long[:4098], long[:8192], long[:65536], long[:65537], long} {
		if f, e := Wrap(b); len(f) != 0 || e != api.ErrArg {
			t.Errorf("Wrap of %d bytes: %d bytes, %v", len(b), len(f), e)
		}
	}
	wrap(t, long[:1])
	wrap(t, long[:4096])
}

// What a slice's memory holds beyond its length doesn't count.
func TestTooShort(t *testing.T) {
	checkError(t, nil, api.ErrShort)
	checkError(t, []byte{}, api.ErrShort)
	for _, n := range sizes() {
		for _, b := range [][]byte{mixed(n), make([]byte, n)} {
			f := wrap(t, b)
			for k := range f {
				checkError(t, f[:k], api.ErrShort)
				checkError(t, slices.Clone(f[:k]), api.ErrShort)
			}
			checkTake(t, f, b, len(f), api.OK)
		}
	}
}

func TestFirstByte(t *testing.T) {
	for c := range 256 {
		for _, b := range [][]byte{{7}, mixed(300), mixed(4096)} {
			f := framed(b)
			f = sealed([]byte{byte(c), f[1], f[2]}, b)
			for _, k := range []int{1, 2, 3, 4, 7, 8, len(f) - 1} {
				if c == 0xa7 {
					checkTold(t, f[:k])
				} else {
					checkError(t, f[:k], api.ErrRecord)
				}
			}
			if c == 0xa7 {
				checkTake(t, f, b, len(f), api.OK)
			} else {
				checkError(t, f, api.ErrRecord)
				checkError(t, append(f, framed(b)...), api.ErrRecord)
			}
		}
	}
}

// A third byte of 16 or more is wrong however many bytes follow it, and whatever checksum.
func TestThirdByte(t *testing.T) {
	for third := range 256 {
		for _, second := range []byte{0, 1, 254, 255} {
			header := []byte{0xa7, second, byte(third)}
			b := mixed(256*third + int(second) + 1)
			f := sealed(header, b)
			if third < 16 {
				checkError(t, header, api.ErrShort)
				checkError(t, f[:len(f)-1], api.ErrShort)
				checkTake(t, f, b, len(f), api.OK)
				checkTake(t, append(f, 0, 1), b, len(f), api.OK)
				continue
			}
			for _, k := range []int{3, 4, 7, 8, 7 + 4095, 7 + 4096, len(f) - 1, len(f)} {
				checkError(t, f[:k], api.ErrRecord)
			}
		}
	}
	checkError(t, framed(mixed(4097)), api.ErrRecord)
	checkTake(t, framed(mixed(4096)), mixed(4096), 4103, api.OK)
}

// The lengths that two bytes tell: the lower one comes first.
func TestEveryHeader(t *testing.T) {
	for first := range 256 {
		for _, second := range []byte{0, 1, 15, 16, 255} {
			for third := range 256 {
				header := []byte{byte(first), second, byte(third)}
				for k := range 4 {
					checkTold(t, header[:k])
				}
				checkTold(t, append(header, mixed(300)...))
			}
		}
	}
}

func TestWrongChecksum(t *testing.T) {
	for _, b := range [][]byte{{0}, []byte("hi"), mixed(257), mixed(4096)} {
		f := framed(b)
		for place := 3; place < 7; place++ {
			for c := range 256 {
				if x := with(f, place, byte(c)); byte(c) != f[place] {
					checkError(t, x, api.ErrRecord)
					checkError(t, append(x, f...), api.ErrRecord)
					checkError(t, x[:len(x)-1], api.ErrShort) // that it is short comes first
				}
			}
		}
		turned := slices.Clone(f)
		slices.Reverse(turned[3:7])
		checkError(t, turned, api.ErrRecord)
		for _, sum := range []uint32{0, 1, 0xffffffff, adler32.Checksum(b), adler32.Checksum(f[:3])} {
			checkError(t, slices.Concat(f[:3], binary.LittleEndian.AppendUint32(nil, sum), b), api.ErrRecord)
		}
	}
}

func TestBytesBehind(t *testing.T) {
	for _, n := range sizes() {
		b := mixed(n)
		f := framed(b)
		for _, tail := range [][]byte{{0}, {0xa7}, {0xff, 0xff}, f[:1], f[:len(f)-1], f, make([]byte, 5000), mixed(70000)} {
			checkTake(t, slices.Concat(f, tail), b, 7+n, api.OK)
		}
	}
}

func TestShortTexts(t *testing.T) {
	for _, s := range texts("\xa7\x00\x01\x0f\x10", 6) {
		checkTold(t, []byte(s))
	}
	for _, s := range texts("\xa7\x00\x01\xa8\xa9\x02\xa0\xa1", 2) {
		for _, r := range texts("\xa7\x00\x01\xa8\xa9\x02\xa0\xa1", 2) {
			checkTold(t, []byte("\xa7\x00\x00"+s+"\xa0\x02"+r))
			checkTold(t, []byte("\xa7\x00\x00\xa8\x00"+s+r))
		}
	}
}

// tails are bytes that are none of a frame's: too few, or wrong ones.
func tails() [][]byte {
	f := framed(mixed(40))
	return [][]byte{
		nil, {0}, {0xa7}, {0xa7, 3}, {0xa7, 3, 15}, {0xa7, 3, 16}, {7}, {0xff, 0xff}, make([]byte, 64),
		f[:6], f[:7], f[:len(f)-1],
		append(with(f, 0, 0xa6), f...), // of frames behind it nobody knows
		append(with(f, 2, 16), f...),
		append(with(f, 4, f[4]+1), f...),
		append(with(f, 46, f[46]+1), f...),
		append([]byte{0}, f...),
		framed(mixed(4097)),
	}
}

func TestScan(t *testing.T) {
	for _, list := range [][]int{
		{}, {1}, {2}, {4096}, {1, 1}, {1, 2, 3}, {3, 2, 1}, {256, 1, 257}, {4096, 1, 4096, 4095}, {5, 5, 5, 5, 5, 5, 5, 5, 5, 5},
	} {
		var b []byte
		var want [][]byte
		for k, n := range list {
			want = append(want, mixed(n + k)[k:])
			b = append(b, framed(want[k])...)
		}
		for _, tail := range tails() {
			checkScan(t, slices.Concat(b, tail), want, len(b))
		}
	}
}

func TestScanOfNothing(t *testing.T) {
	checkScan(t, nil, nil, 0)
	checkScan(t, []byte{}, nil, 0)
	for _, tail := range tails() {
		checkScan(t, tail, nil, 0)
	}
}

// The end of the bytes goes through all places of some frames: those that are there as a whole count.
func TestScanOfEveryBeginning(t *testing.T) {
	var b []byte
	var want [][]byte
	var ends []int
	for k, n := range []int{1, 300, 2, 1, 256, 17} {
		want = append(want, mixed(n + k)[k:])
		b = append(b, framed(want[k])...)
		ends = append(ends, len(b))
	}
	for k := range len(b) + 1 {
		whole, size := 0, 0
		for whole < len(ends) && ends[whole] <= k {
			size = ends[whole]
			whole++
		}
		checkScan(t, b[:k], want[:whole], size)
	}
}

// Scan is Take, again and again.
func TestScanTakes(t *testing.T) {
	for _, parts := range [][]int{{9, 0}, {9, 1}, {9, 8}, {9, 9}, {9, 10}, {0}, {1}} {
		b := slices.Concat(framed([]byte("hi")), framed(mixed(300)), framed([]byte{0xa7}))[parts[0]:]
		if len(parts) > 1 {
			b = with(b, parts[1], b[parts[1]]^1)
		}
		var want [][]byte
		at := 0
		for {
			r, n, e := Take(b[at:])
			if e != api.OK {
				break
			}
			want = append(want, r)
			at += n
		}
		checkScan(t, b, want, at)
	}
}

func TestScanOfMany(t *testing.T) {
	var b []byte
	var want [][]byte
	for k := range 50000 {
		want = append(want, []byte{byte(k), byte(k >> 8), byte(k % 7)}[:1+k%3])
		b = append(b, framed(want[k])...)
	}
	checkScan(t, b, want, len(b))
	checkScan(t, append(b, 0xa7, 0, 0), want, len(b))
}

// A frame may lie within a record: it is a part of it, and nothing else.
func TestFramesInRecords(t *testing.T) {
	inner := framed([]byte("hi"))
	outer := framed(slices.Concat(inner, inner))
	checkTake(t, outer, slices.Concat(inner, inner), len(outer), api.OK)
	checkScan(t, slices.Concat(outer, inner), [][]byte{slices.Concat(inner, inner), []byte("hi")}, len(outer)+9)
	checkScan(t, slices.Concat(outer[7:], outer), [][]byte{[]byte("hi"), []byte("hi"), slices.Concat(inner, inner)}, 18+len(outer))
}

// P4.2.
func TestInverse(t *testing.T) {
	for _, s := range texts("\x00\xa7\xff", 7)[1:] {
		f := wrap(t, []byte(s))
		checkTake(t, f, []byte(s), len(f), api.OK)
	}
	for _, n := range sizes() {
		for _, b := range [][]byte{mixed(n), make([]byte, n), bytes.Repeat([]byte{255}, n), bytes.Repeat([]byte{0xa7}, n)} {
			f := wrap(t, b)
			checkTake(t, f, b, len(f), api.OK)
			checkTake(t, slices.Concat(f, mixed(9)), b, len(f), api.OK)
		}
	}
}

// P4.2, the other way round: whatever bytes are taken, Wrap makes them again.
func TestTakenAndWrapped(t *testing.T) {
	taken := 0
	again := func(b []byte) {
		t.Helper()
		r, n, e := Take(b)
		if e != api.OK {
			return
		}
		taken++
		if f, e := Wrap(r); e != api.OK || !bytes.Equal(f, b[:n]) {
			t.Fatalf("taken from %q.., wrapped as %q.., %v", short(b), short(f), e)
		}
	}
	for c := range 256 {
		for low := range 256 { // of a record of one byte all checksums that might be right, and as many others
			for sums := range byte(4) {
				again([]byte{0xa7, 0, 0, byte(low), sums % 2, byte(low - 8), 2 + sums/2, byte(c), 0xa7})
			}
		}
	}
	if taken != 256 {
		t.Errorf("%d were taken", taken)
	}
	for n := 1; n <= 600; n++ {
		again(append(framed(mixed(n)), 1, 2, 3))
	}
	if taken != 256+600 {
		t.Errorf("%d were taken", taken)
	}
}

// changed fails if a frame stays one when exactly one of its bytes is changed, or if Take answers otherwise than told.
func changed(t *testing.T, f []byte, place int, others []byte) {
	t.Helper()
	x := slices.Clone(f)
	for _, c := range others {
		if c == f[place] {
			continue
		}
		x[place] = c
		if isFrame(x) {
			t.Fatalf("%q.., %d bytes: with %d at %d still a frame", short(f), len(f), c, place)
		}
		checkTold(t, x)
	}
}

// P4.3.
func TestOneByteChanged(t *testing.T) {
	var all []byte
	for c := range 256 {
		all = append(all, byte(c))
	}
	for _, b := range [][]byte{
		{0}, {0xa7}, {255}, []byte("hi"), make([]byte, 8), bytes.Repeat([]byte{255}, 40), mixed(255), mixed(256), mixed(257), make([]byte, 300),
	} {
		f := wrap(t, b)
		for place := range f {
			changed(t, f, place, all)
		}
	}
	for _, b := range [][]byte{mixed(4096), make([]byte, 4096), bytes.Repeat([]byte{255}, 4095)} {
		f := wrap(t, b)
		for place := range f {
			c := f[place]
			changed(t, f, place, []byte{c + 1, c ^ 0x80})
			if place < 7 {
				changed(t, f, place, all)
			}
		}
	}
}

// collision is a frame of 258 bytes and 512 more, of which with its third byte less by 2 the first 258 are a frame too.
func collision(t *testing.T) (first, rest, frame []byte) {
	t.Helper()
	rest = bytes.Repeat([]byte{128}, 512)
	rest[0] = 128 - 17 // with the 2 of the third byte their sum is then 65521
	first = make([]byte, 258)
	for n := range 258 * 255 {
		first[n/255]++
		f := framed(slices.Concat(first, rest))
		if bytes.Equal(framed(first)[3:7], f[3:7]) {
			return first, rest, f
		}
	}
	t.Fatalf("no collision was found")
	return nil, nil, nil
}

// A length that is changed may happen to leave a shorter frame at the beginning, but the whole is none.
func TestShorterFrame(t *testing.T) {
	first, rest, f := collision(t)
	checkTake(t, f, slices.Concat(first, rest), 7+258+512, api.OK)
	x := with(f, 2, f[2]-2)
	if isFrame(x) {
		t.Errorf("the whole is a frame")
	}
	checkTake(t, x, first, 7+258, api.OK)
	checkScan(t, x, [][]byte{first}, 7+258)
}

// Arguments stay as they are, and nothing that is answered shares memory with them.
func TestNewMemory(t *testing.T) {
	b := mixed(50)
	f := wrap(t, b)
	kept := slices.Clone(f)
	b[0], b[49] = b[0]+1, b[49]+1
	if !bytes.Equal(f, kept) {
		t.Errorf("a frame changed with its record")
	}
	b = mixed(50)
	clear(f)
	if !bytes.Equal(b, mixed(50)) {
		t.Errorf("a record changed with its frame")
	}
	from := slices.Concat(kept, []byte{1, 2, 3})
	r, _, _ := Take(from)
	if !bytes.Equal(from, slices.Concat(kept, []byte{1, 2, 3})) {
		t.Errorf("Take changed its argument")
	}
	clear(from)
	if !bytes.Equal(r, b) {
		t.Errorf("a record changed with what it was taken from")
	}
	from = slices.Concat(kept, []byte{1, 2, 3})
	r, _, _ = Take(from)
	clear(append(r, 9, 9, 9))
	clear(r)
	if !bytes.Equal(from, slices.Concat(kept, []byte{1, 2, 3})) {
		t.Errorf("bytes changed with the record that was taken from them")
	}
}

func TestNewMemoryOfScan(t *testing.T) {
	want := [][]byte{mixed(3), mixed(40), mixed(3), mixed(9)}
	var b []byte
	for _, r := range want {
		b = append(b, framed(r)...)
	}
	kept := slices.Clone(b)
	for k := range want {
		l, _ := Scan(b)
		if !bytes.Equal(b, kept) {
			t.Fatalf("Scan changed its argument")
		}
		clear(append(l[k], 9, 9, 9, 9, 9, 9, 9, 9, 9, 9))
		clear(l[k])
		for i, r := range l {
			if i != k && !bytes.Equal(r, want[i]) {
				t.Errorf("record %d changed with record %d", i, k)
			}
		}
		if !bytes.Equal(b, kept) {
			t.Fatalf("bytes changed with record %d of them", k)
		}
	}
	l, _ := Scan(b)
	clear(b)
	if !slices.EqualFunc(l, want, bytes.Equal) {
		t.Errorf("records changed with what they were taken from")
	}
}

// inputs are frames, bytes near to frames, and others.
func inputs() [][]byte {
	all := tails()
	for n := range 40 {
		f := framed(mixed(n + 1))
		all = append(all, mixed(n*n*n), f, f[n/2:], f[:len(f)-n%9], slices.Concat(f, f, mixed(n)), with(f, n%len(f), byte(n*9)))
	}
	for n := 4090; n < 4110; n++ {
		f := framed(mixed(n))
		all = append(all, mixed(n), f, f[:n], slices.Concat(f, f))
	}
	return all
}

// P1 and P2 of the document: whatever is given, no call panics, and the same calls are answered alike.
func TestTotalAndSame(t *testing.T) {
	type answer struct {
		bytes string
		n     int
		e     api.Errno
	}
	ask := func(b []byte) []answer {
		f, e := Wrap(b)
		all := []answer{{string(f), 0, e}}
		r, n, e := Take(b)
		all = append(all, answer{string(r), n, e})
		l, n := Scan(b)
		for _, r := range l {
			all = append(all, answer{string(r), n, api.OK})
		}
		return append(all, answer{"", n, api.OK})
	}
	var first [][]answer
	for _, b := range inputs() {
		checkTold(t, b)
		first = append(first, ask(b))
	}
	all := inputs()
	for k := len(all) - 1; k >= 0; k-- { // in another order
		if !slices.Equal(ask(all[k]), first[k]) {
			t.Errorf("the same bytes are answered otherwise: %q..", short(all[k]))
		}
	}
}
