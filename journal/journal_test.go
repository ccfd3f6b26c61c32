package journal

import (
	"bytes"
	"encoding/binary"
	"hash/adler32"
	"math"
	"slices"
	"testing"

	"headgate/api"
	"headgate/disk"
)

// mixed are n bytes, none of them 0, and others for each k from 0 on.
func mixed(k, n int) []byte {
	b := make([]byte, n)
	for i := range b {
		b[i] = byte(1 + (i*i*37+i*11+i>>8+k*53)%255)
	}
	return b
}

// framed is the frame of a record, as the words of chapter 4 tell it.
func framed(b []byte) []byte {
	less := len(b) - 1
	header := []byte{0xa7, byte(less % 256), byte(less / 256)}
	sum := adler32.Checksum(slices.Concat(header, b))
	return slices.Concat(header, binary.LittleEndian.AppendUint32(nil, sum), b)
}

// with is a copy of b with another byte at n.
func with(b []byte, n int, c byte) []byte {
	x := slices.Clone(b)
	x[n] = c
	return x
}

// padded are the bytes of a region of size blocks that begins with b; the others are 0.
func padded(b []byte, size int) []byte {
	return append(slices.Clone(b), make([]byte, size*32-len(b))...)
}

// zeros are the bytes of a region of bytes 0.
func zeros(size int) []byte {
	return make([]byte, 32*size)
}

// far are numbers far from every block and size.
func far() []int {
	return []int{math.MinInt, math.MinInt + 1, math.MinInt + 7, -1 << 32, -1 << 31, 1 << 31, 1 << 32, math.MaxInt - 7, math.MaxInt - 1, math.MaxInt}
}

// The region of most tests: blocks 2 to 5 of 8.
const (
	blocks = 8
	first  = 2
	size   = 4
)

// laid is a disk with these bytes from a block on. No other byte of it is 0, and all of it is durable.
func laid(t testing.TB, blocks, first int, b []byte) *disk.Disk {
	t.Helper()
	d, e := disk.New(blocks)
	if e != api.OK {
		t.Fatalf("New(%d): %v", blocks, e)
	}
	for n := range blocks {
		write(t, d, n, bytes.Repeat([]byte{0xee}, 32))
	}
	for n := range len(b) / 32 {
		write(t, d, first+n, b[32*n:32*n+32])
	}
	d.Sync()
	return d.Cut(d.Calls(), nil, 0)
}

func write(t testing.TB, d *disk.Disk, n int, b []byte) {
	t.Helper()
	if e := d.Write(n, b); e != api.OK {
		t.Fatalf("Write(%d, %q): %v", n, b, e)
	}
}

// image are all bytes of a disk.
func image(d *disk.Disk) []byte {
	var all []byte
	for n := range d.Blocks() {
		b, _ := d.Read(n)
		all = append(all, b...)
	}
	return all
}

// checkSame holds two disks against each other that began alike: the same calls, in the same order, as far as failures show it.
func checkSame(t testing.TB, d, want *disk.Disk) {
	t.Helper()
	if d.Calls() != want.Calls() {
		t.Fatalf("%d calls; want %d", d.Calls(), want.Calls())
	}
	if !bytes.Equal(image(d), image(want)) {
		t.Fatalf("the disk is\n%q\nwant\n%q", image(d), image(want))
	}
	for at := range d.Calls() + 1 {
		for n := range at + 1 { // of n == 0 nothing is kept, else the n-th write alone
			keep := make([]bool, n)
			if n > 0 {
				keep[n-1] = true
			}
			got, told := image(d.Cut(at, keep, 32)), image(want.Cut(at, keep, 32))
			if !bytes.Equal(got, told) {
				t.Fatalf("after %d calls, write %d kept, the disk is\n%q\nwant\n%q", at, n, got, told)
			}
		}
	}
}

func open(t testing.TB, d *disk.Disk, first, size int) *Journal {
	t.Helper()
	j, e := Open(d, first, size)
	if j == nil || e != api.OK {
		t.Fatalf("Open(%d, %d) of %d blocks: %v, %v", first, size, d.Blocks(), j, e)
	}
	return j
}

func appended(t testing.TB, j *Journal, b []byte) {
	t.Helper()
	if e := j.Append(b); e != api.OK {
		t.Fatalf("Append of %d bytes, room %d: %v", len(b), j.Room(), e)
	}
}

func refused(t testing.TB, j *Journal, b []byte, want api.Errno) {
	t.Helper()
	if e := j.Append(b); e != want {
		t.Fatalf("Append of %d bytes, room %d: %v; want %v", len(b), j.Room(), e, want)
	}
}

// check holds a journal against what it is to have, and how many bytes are left.
func check(t testing.TB, j *Journal, room int, want ...[]byte) {
	t.Helper()
	if r := j.Records(); !slices.EqualFunc(r, want, bytes.Equal) {
		t.Fatalf("%d records: %q; want %d: %q", len(r), r, len(want), want)
	}
	if j.Room() != room {
		t.Fatalf("room %d; want %d", j.Room(), room)
	}
}

func TestOpenOfNoRegion(t *testing.T) {
	for _, blocks := range []int{1, 2, 8, 1 << 16} {
		d, _ := disk.New(blocks)
		write(t, d, 0, bytes.Repeat([]byte{7}, 32))
		write(t, d, blocks-1, bytes.Repeat([]byte{7}, 32))
		cases := [][2]int{
			{0, 0}, {0, -1}, {blocks, 0}, {-1, 0}, {-1, -1}, {-blocks, -1},
			{-1, 1}, {-1, 2}, {-1, blocks}, {-1, blocks + 1}, {-blocks, blocks}, {-blocks, 2 * blocks},
			{0, blocks + 1}, {1, blocks}, {blocks, 1}, {blocks - 1, 2}, {blocks + 1, 1}, {blocks + 1, -1}, {blocks + 2, -2},
		}
		for _, n := range far() {
			cases = append(cases, [2]int{0, n}, [2]int{n, 0}, [2]int{1, n}, [2]int{n, 1}, [2]int{-1, n}, [2]int{n, -1}, [2]int{n, blocks})
			for _, m := range far() {
				cases = append(cases, [2]int{n, m})
			}
		}
		for _, c := range cases {
			if j, e := Open(d, c[0], c[1]); j != nil || e != api.ErrArg {
				t.Errorf("Open(%d, %d) of %d blocks: %v, %v", c[0], c[1], blocks, j, e)
			}
			if d.Calls() != 2 {
				t.Fatalf("Open(%d, %d) of %d blocks: the disk was called", c[0], c[1], blocks)
			}
		}
	}
}

func TestOpenOfNoDisk(t *testing.T) {
	for _, n := range append(far(), -1, 0, 1, 2) {
		for _, m := range append(far(), -1, 0, 1, 2) {
			if j, e := Open(nil, n, m); j != nil || e != api.ErrArg {
				t.Errorf("Open(nil, %d, %d): %v, %v", n, m, j, e)
			}
		}
	}
}

func TestOpenOfZeros(t *testing.T) {
	for _, blocks := range []int{1, 2, 3, 8, 1 << 16} {
		for _, c := range [][2]int{{0, 1}, {0, blocks}, {blocks - 1, 1}, {blocks / 2, blocks - blocks/2}} {
			d, _ := disk.New(blocks)
			check(t, open(t, d, c[0], c[1]), 32*c[1])
			if d.Calls() != 0 {
				t.Errorf("Open(%d, %d) of %d blocks: %d calls", c[0], c[1], blocks, d.Calls())
			}
		}
	}
}

// checkOpen opens a region of which frames take the first used bytes: these blocks of it are to be written, in this order.
func checkOpen(t testing.TB, region []byte, used int, written []int, records [][]byte) {
	t.Helper()
	d, want := laid(t, blocks, first, region), laid(t, blocks, first, region)
	after := padded(region[:used], size)
	for _, n := range written {
		write(t, want, first+n, after[32*n:32*n+32])
	}
	if len(written) > 0 {
		want.Sync()
	}
	check(t, open(t, d, first, size), 32*size-used, records...)
	checkSame(t, d, want)
	calls := d.Calls()
	check(t, open(t, d, first, size), 32*size-used, records...)
	if d.Calls() != calls {
		t.Errorf("%q: opened again, the disk was called", region)
	}
}

// What follows the last frame is set to 0, block by block; the others aren't written.
func TestOpenOfBytes(t *testing.T) {
	ten, more, block, whole := framed(mixed(1, 3)), framed(mixed(2, 60)), framed(mixed(3, 25)), framed(mixed(4, 121))
	full := mixed(5, 128)
	behind := func(b []byte, n int) []byte { // stray bytes from n on
		return slices.Concat(padded(b, size)[:n], full[n:])
	}
	cat := slices.Concat[[]byte]
	for _, c := range []struct {
		region  []byte
		records [][]byte
		used    int
		written []int // blocks of the region
	}{
		{nil, nil, 0, nil},
		{ten, [][]byte{mixed(1, 3)}, 10, nil},
		{cat(ten, more), [][]byte{mixed(1, 3), mixed(2, 60)}, 77, nil},
		{cat(more, ten, ten), [][]byte{mixed(2, 60), mixed(1, 3), mixed(1, 3)}, 87, nil},
		{cat(block, block, block, block), [][]byte{mixed(3, 25), mixed(3, 25), mixed(3, 25), mixed(3, 25)}, 128, nil},
		{whole, [][]byte{mixed(4, 121)}, 128, nil},

		{with(padded(ten, size), 10, 1), [][]byte{mixed(1, 3)}, 10, []int{0}},
		{with(padded(ten, size), 10, 0xa7), [][]byte{mixed(1, 3)}, 10, []int{0}},
		{with(padded(ten, size), 31, 1), [][]byte{mixed(1, 3)}, 10, []int{0}},
		{with(padded(ten, size), 32, 1), [][]byte{mixed(1, 3)}, 10, []int{1}},
		{with(padded(ten, size), 63, 1), [][]byte{mixed(1, 3)}, 10, []int{1}},
		{with(padded(ten, size), 127, 0xa7), [][]byte{mixed(1, 3)}, 10, []int{3}},
		{with(with(padded(ten, size), 11, 1), 64, 1), [][]byte{mixed(1, 3)}, 10, []int{2, 0}},
		{with(with(padded(ten, size), 127, 1), 95, 1), [][]byte{mixed(1, 3)}, 10, []int{3, 2}},
		{behind(ten, 10), [][]byte{mixed(1, 3)}, 10, []int{3, 2, 1, 0}},
		{behind(ten, 33), [][]byte{mixed(1, 3)}, 10, []int{3, 2, 1}},
		{behind(more, 67), [][]byte{mixed(2, 60)}, 67, []int{3, 2}},
		{behind(block, 32), [][]byte{mixed(3, 25)}, 32, []int{3, 2, 1}},
		{behind(cat(block, block, block), 96), [][]byte{mixed(3, 25), mixed(3, 25), mixed(3, 25)}, 96, []int{3}},

		{full, nil, 0, []int{3, 2, 1, 0}},
		{with(zeros(size), 0, 1), nil, 0, []int{0}},
		{with(zeros(size), 0, 0xa7), nil, 0, []int{0}},
		{with(zeros(size), 127, 1), nil, 0, []int{3}},
		{cat([]byte{0}, ten), nil, 0, []int{0}}, // frames behind other bytes are none
		{cat(ten, []byte{0}, more), [][]byte{mixed(1, 3)}, 10, []int{2, 1, 0}},
		{cat(ten, with(more, 66, more[66]^1), ten), [][]byte{mixed(1, 3)}, 10, []int{2, 1, 0}},
		{cat(block, with(block, 3, block[3]^1), block), [][]byte{mixed(3, 25)}, 32, []int{2, 1}},
		{cat(block, framed(make([]byte, 25))[:7]), [][]byte{mixed(3, 25), make([]byte, 25)}, 64, nil}, // a record's bytes may be 0
		{cat(block, with(framed(make([]byte, 80))[:7], 3, 0)), [][]byte{mixed(3, 25)}, 32, []int{1}},
		{framed(mixed(4, 122))[:128], nil, 0, []int{3, 2, 1, 0}}, // one byte of the frame is beyond the region
		{cat(block, framed(mixed(4, 90)))[:128], [][]byte{mixed(3, 25)}, 32, []int{3, 2, 1}},
	} {
		checkOpen(t, padded(c.region, size), c.used, c.written, c.records)
	}
}

// One stray byte goes through all places behind a frame: its block is written, and no other one.
func TestOpenOfOneByte(t *testing.T) {
	for _, length := range []int{1, 3, 24, 25, 26, 60, 88, 89, 90} {
		frame := framed(mixed(length, length))
		for n := len(frame); n < 32*size; n++ {
			region := with(padded(frame, size), n, byte(n)|1)
			d, want := laid(t, blocks, first, region), laid(t, blocks, first, region)
			block := n / 32
			write(t, want, first+block, padded(frame, size)[32*block:32*block+32])
			want.Sync()
			check(t, open(t, d, first, size), 32*size-len(frame), mixed(length, length))
			checkSame(t, d, want)
		}
	}
}

// A region ends where its size says, whatever bytes lie beyond it.
func TestOpenOfAPart(t *testing.T) {
	all := slices.Concat(framed(mixed(1, 25)), framed(mixed(2, 57)), framed(mixed(3, 25)))
	whole := laid(t, blocks, first, all)
	for _, c := range []struct {
		first, size int
		records     [][]byte
		room        int
		left        []byte // the region's bytes
	}{
		{first, 4, [][]byte{mixed(1, 25), mixed(2, 57), mixed(3, 25)}, 0, all},
		{first, 3, [][]byte{mixed(1, 25), mixed(2, 57)}, 0, all[:96]},
		{first, 2, [][]byte{mixed(1, 25)}, 32, padded(all[:32], 2)},
		{first, 1, [][]byte{mixed(1, 25)}, 0, all[:32]},
		{first + 1, 3, [][]byte{mixed(2, 57), mixed(3, 25)}, 0, all[32:]},
		{first + 1, 1, nil, 32, zeros(1)},
		{first + 2, 2, nil, 64, zeros(2)},
		{first + 3, 1, [][]byte{mixed(3, 25)}, 0, all[96:]},
		{first + 3, 3, [][]byte{mixed(3, 25)}, 64, padded(all[96:], 3)},
		{first - 1, 3, nil, 96, zeros(3)},
		{0, 8, nil, 256, zeros(8)},
	} {
		d := whole.Cut(0, nil, 0)
		check(t, open(t, d, c.first, c.size), c.room, c.records...)
		want := image(whole)
		copy(want[32*c.first:], c.left)
		if !bytes.Equal(image(d), want) {
			t.Errorf("Open(%d, %d): the disk is\n%q\nwant\n%q", c.first, c.size, image(d), want)
		}
	}
}

// The blocks that a frame touches are written as a whole, from the first one to the last.
func TestAppend(t *testing.T) {
	d, want := laid(t, 10, 1, zeros(8)), laid(t, 10, 1, zeros(8))
	j := open(t, d, 1, 8)
	var all []byte
	var records [][]byte
	for k, c := range []struct {
		length  int
		touched []int // blocks of the region
	}{
		{25, []int{0}}, // a block as a whole
		{1, []int{1}},
		{17, []int{1}},    // up to the end of its block
		{26, []int{2, 3}}, // a byte more than a block
		{24, []int{3}},
		{60, []int{4, 5, 6}},
		{54, []int{6, 7}},
	} {
		records = append(records, mixed(k, c.length))
		all = append(all, framed(records[k])...)
		appended(t, j, mixed(k, c.length))
		for _, n := range c.touched {
			write(t, want, 1+n, padded(all, 8)[32*n:32*n+32])
		}
		check(t, j, 256-len(all), records...)
		checkSame(t, d, want)
	}
	if j.Room() != 0 {
		t.Errorf("room %d; want 0", j.Room())
	}
	if !bytes.Equal(image(d)[32:288], all) {
		t.Errorf("the region is\n%q\nwant\n%q", image(d)[32:288], all)
	}
	check(t, open(t, d, 1, 8), 0, records...)
}

// Of a frame all blocks are written, also those that don't change.
func TestAppendOfZeros(t *testing.T) {
	d, want := laid(t, blocks, first, zeros(size)), laid(t, blocks, first, zeros(size))
	j := open(t, d, first, size)
	all := slices.Concat(framed(make([]byte, 80)), framed(make([]byte, 3)))
	appended(t, j, make([]byte, 80))
	for _, n := range []int{0, 1, 2} {
		write(t, want, first+n, padded(all[:87], size)[32*n:32*n+32])
	}
	checkSame(t, d, want)
	appended(t, j, make([]byte, 3))
	for _, n := range []int{2, 3} {
		write(t, want, first+n, padded(all, size)[32*n:32*n+32])
	}
	checkSame(t, d, want)
	check(t, j, 128-97, make([]byte, 80), make([]byte, 3))
	check(t, open(t, d, first, size), 128-97, make([]byte, 80), make([]byte, 3))
}

// All lengths of a record, and of what stands ahead of it.
func TestAppendAfterEveryLength(t *testing.T) {
	for ahead := 1; ahead <= 60; ahead++ {
		for length := 1; length <= 60; length++ {
			d, _ := disk.New(6)
			j := open(t, d, 1, 5)
			appended(t, j, mixed(1, ahead))
			before := d.Calls()
			if want := (ahead + 7 + 31) / 32; before != want {
				t.Fatalf("a record of %d bytes: %d writes; want %d", ahead, before, want)
			}
			appended(t, j, mixed(2, length))
			from, to := ahead+7, ahead+length+14
			if want := (to-1)/32 - from/32 + 1; d.Calls()-before != want {
				t.Fatalf("a record of %d bytes after one of %d: %d writes; want %d", length, ahead, d.Calls()-before, want)
			}
			region := padded(slices.Concat(framed(mixed(1, ahead)), framed(mixed(2, length))), 5)
			if !bytes.Equal(image(d), slices.Concat(zeros(1), region)) {
				t.Fatalf("a record of %d bytes after one of %d: the disk is %q", length, ahead, image(d))
			}
			check(t, j, 160-to, mixed(1, ahead), mixed(2, length))
		}
	}
}

// What is refused changes nothing; that it is no record comes first.
func TestAppendRefused(t *testing.T) {
	long := mixed(0, 1<<16)
	for _, blocks := range []int{1, 2, 128, 129, 200} {
		for _, length := range []int{0, 1, 3, 17, 18, 25} {
			d, _ := disk.New(blocks)
			j := open(t, d, 0, blocks)
			var records [][]byte
			if length > 0 {
				appended(t, j, mixed(1, length))
				records = append(records, mixed(1, length))
			}
			calls, room, before := d.Calls(), j.Room(), image(d)
			for _, n := range []int{0, 4097, 4098, 8192, 65535, 65536} {
				refused(t, j, long[:n], api.ErrArg)
			}
			refused(t, j, nil, api.ErrArg)
			for n := max(1, room-6); n <= min(4096, room+40); n++ {
				refused(t, j, long[:n], api.ErrFull)
			}
			if room < 4096+7 {
				refused(t, j, long[:4096], api.ErrFull)
			}
			if d.Calls() != calls || !bytes.Equal(image(d), before) {
				t.Fatalf("%d blocks: what was refused was written", blocks)
			}
			check(t, j, room, records...)
			if n := min(4096, room-7); n > 0 { // what fits exactly
				appended(t, j, long[:n])
				check(t, j, room-n-7, append(records, long[:n])...)
				check(t, open(t, d, 0, blocks), room-n-7, append(records, long[:n])...)
			}
		}
	}
}

// Of the room that is left less than 8 bytes are of no use.
func TestRoomOfNoUse(t *testing.T) {
	for left := range 20 {
		d, _ := disk.New(3)
		j := open(t, d, 1, 2)
		appended(t, j, mixed(1, 57-left))
		if left < 8 {
			refused(t, j, []byte{1}, api.ErrFull)
			refused(t, j, nil, api.ErrArg)
			refused(t, j, make([]byte, 4097), api.ErrArg)
			check(t, j, left, mixed(1, 57-left))
			continue
		}
		refused(t, j, mixed(2, left-6), api.ErrFull)
		appended(t, j, mixed(2, left-7))
		check(t, j, 0, mixed(1, 57-left), mixed(2, left-7))
		refused(t, j, []byte{1}, api.ErrFull)
	}
}

func TestManyRecords(t *testing.T) {
	d, _ := disk.New(1 << 16)
	j := open(t, d, 0, 1<<16)
	var records [][]byte
	used := 0
	for k := 0; ; k++ {
		b := mixed(k, 1+k*31%4096)
		if used+len(b)+7 > 1<<21 {
			refused(t, j, b, api.ErrFull)
			break
		}
		appended(t, j, b)
		records = append(records, b)
		used += len(b) + 7
	}
	check(t, j, 1<<21-used, records...)
	check(t, open(t, d, 0, 1<<16), 1<<21-used, records...)
}

func TestSync(t *testing.T) {
	d, want := laid(t, blocks, first, zeros(size)), laid(t, blocks, first, zeros(size))
	j := open(t, d, first, size)
	sync := func() {
		t.Helper()
		if e := j.Sync(); e != api.OK {
			t.Fatalf("Sync: %v", e)
		}
		want.Sync()
		checkSame(t, d, want)
	}
	sync() // also with nothing to sync
	appended(t, j, mixed(1, 40))
	for _, n := range []int{0, 1} {
		write(t, want, first+n, padded(framed(mixed(1, 40)), size)[32*n:32*n+32])
	}
	checkSame(t, d, want)
	check(t, open(t, d.Cut(d.Calls(), nil, 0), first, size), 128)
	write(t, d, 0, mixed(2, 32)) // Sync is the disk's: of all its blocks
	write(t, want, 0, mixed(2, 32))
	sync()
	sync()
	check(t, j, 128-47, mixed(1, 40))
	check(t, open(t, d.Cut(d.Calls(), nil, 0), first, size), 128-47, mixed(1, 40))
}

func TestClear(t *testing.T) {
	for _, c := range []struct {
		records [][]byte
		written []int // blocks of the region
	}{
		{nil, nil},
		{[][]byte{mixed(1, 1)}, []int{0}},
		{[][]byte{mixed(1, 25)}, []int{0}},
		{[][]byte{mixed(1, 26)}, []int{1, 0}},
		{[][]byte{mixed(1, 3), mixed(2, 60)}, []int{2, 1, 0}},
		{[][]byte{mixed(1, 121)}, []int{3, 2, 1, 0}},
		{[][]byte{make([]byte, 121)}, []int{0}}, // the others are 0 already
		{[][]byte{make([]byte, 57), mixed(1, 25)}, []int{2, 0}},
		{[][]byte{mixed(1, 25), make([]byte, 57), mixed(2, 25)}, []int{3, 1, 0}},
		{[][]byte{mixed(1, 57), with(make([]byte, 57), 56, 1)}, []int{3, 2, 1, 0}},
		{[][]byte{with(make([]byte, 121), 88, 1)}, []int{2, 0}},
	} {
		d, want := laid(t, blocks, first, zeros(size)), laid(t, blocks, first, zeros(size))
		j, twin := open(t, d, first, size), open(t, want, first, size)
		for _, r := range c.records {
			appended(t, j, r)
			appended(t, twin, r)
		}
		for again := range 2 {
			if e := j.Clear(); e != api.OK {
				t.Fatalf("Clear: %v", e)
			}
			for _, n := range c.written {
				if again == 0 {
					write(t, want, first+n, make([]byte, 32))
				}
			}
			want.Sync()
			check(t, j, 128)
			checkSame(t, d, want)
		}
		calls := d.Calls()
		check(t, open(t, d, first, size), 128)
		check(t, open(t, d.Cut(calls, nil, 0), first, size), 128)
		if d.Calls() != calls {
			t.Errorf("%q: after Clear, Open called the disk", c.records)
		}
		appended(t, j, mixed(3, 121)) // from the beginning on
		check(t, j, 0, mixed(3, 121))
		check(t, open(t, d, first, size), 0, mixed(3, 121))
	}
}

// A journal that was opened goes on where it ended.
func TestOpenedAgain(t *testing.T) {
	d := laid(t, blocks, first, zeros(size))
	var records [][]byte
	used := 0
	for k, n := range []int{1, 30, 2, 25, 20, 1} {
		j := open(t, d, first, size)
		check(t, j, 128-used, records...)
		appended(t, j, mixed(k, n))
		records = append(records, mixed(k, n))
		used += n + 7
		check(t, j, 128-used, records...)
	}
	if want := 9; d.Calls() != want {
		t.Errorf("%d calls; want the %d writes of the appends", d.Calls(), want)
	}
	j := open(t, d, first, size)
	refused(t, j, []byte{1}, api.ErrFull)
	j.Clear()
	check(t, open(t, d, first, size), 128)
}

// Journals side by side on one disk: none touches the blocks of another one.
func TestNeighbours(t *testing.T) {
	d := laid(t, blocks, 1, zeros(6))
	a, b, c := open(t, d, 1, 2), open(t, d, 3, 3), open(t, d, 6, 1)
	appended(t, b, mixed(1, 40))
	appended(t, a, mixed(2, 57))
	appended(t, c, mixed(3, 25))
	appended(t, b, mixed(4, 42))
	refused(t, a, mixed(2, 1), api.ErrFull)
	check(t, a, 0, mixed(2, 57))
	check(t, b, 0, mixed(1, 40), mixed(4, 42))
	check(t, c, 0, mixed(3, 25))
	b.Clear()
	check(t, open(t, d, 1, 2), 0, mixed(2, 57))
	check(t, open(t, d, 3, 3), 96)
	check(t, open(t, d, 6, 1), 0, mixed(3, 25))
	outer := bytes.Repeat([]byte{0xee}, 32)
	want := slices.Concat(outer, framed(mixed(2, 57)), zeros(3), framed(mixed(3, 25)), outer)
	if !bytes.Equal(image(d), want) {
		t.Errorf("the disk is\n%q\nwant\n%q", image(d), want)
	}
}

func TestNil(t *testing.T) {
	var j *Journal
	for _, b := range [][]byte{nil, {}, {1}, make([]byte, 4096), make([]byte, 4097)} {
		refused(t, j, b, api.ErrArg)
	}
	if e := j.Sync(); e != api.ErrArg {
		t.Errorf("Sync: %v", e)
	}
	if e := j.Clear(); e != api.ErrArg {
		t.Errorf("Clear: %v", e)
	}
	check(t, j, 0)
}

// Rule 4: no argument is kept or changed, no result is shared.
func TestMemory(t *testing.T) {
	d := laid(t, blocks, first, zeros(size))
	j := open(t, d, first, size)
	long := mixed(1, 60)
	appended(t, j, long[:40])
	if !bytes.Equal(long, mixed(1, 60)) {
		t.Fatalf("Append changed its argument, or what lies behind it")
	}
	clear(long)
	appended(t, j, mixed(2, 30))
	for k := range 2 {
		r, s := j.Records(), j.Records()
		clear(append(r[k], 9, 9, 9, 9, 9, 9, 9, 9, 9, 9))
		clear(r[k])
		if !bytes.Equal(r[1-k], mixed(2-k, []int{30, 40}[k])) {
			t.Errorf("record %d changed with record %d", 1-k, k)
		}
		clear(r)
		want := [][]byte{mixed(1, 40), mixed(2, 30)}
		if !slices.EqualFunc(s, want, bytes.Equal) {
			t.Errorf("records changed with others")
		}
		check(t, j, 128-84, want...)
		check(t, open(t, d, first, size), 128-84, want...)
	}
	b, _ := d.Read(first)
	clear(b)
	check(t, j, 128-84, mixed(1, 40), mixed(2, 30))
}

// P1 and P2 of the document: whatever is asked, no call panics, and the same calls are answered alike.
func TestTotalAndSame(t *testing.T) {
	type answer struct {
		bytes string
		n     int
		e     api.Errno
	}
	numbers := append(far(), -2, -1, 0, 1, 2, 3, 7, 8, 9)
	ask := func(d *disk.Disk) []answer {
		var all []answer
		for i, n := range numbers {
			for k, m := range numbers {
				j, e := Open(d, n, m)
				all = append(all, answer{"", d.Calls(), e})
				for _, b := range [][]byte{nil, mixed(k, 1+i*k%90), make([]byte, 4097)} {
					all = append(all, answer{"", j.Room(), j.Append(b)})
				}
				if (i+k)%3 == 0 {
					all = append(all, answer{"", d.Calls(), j.Sync()})
				}
				for _, r := range j.Records() {
					all = append(all, answer{string(r), j.Room(), api.OK})
				}
				if (i+k)%5 == 0 {
					all = append(all, answer{string(image(d)), d.Calls(), j.Clear()})
				}
			}
		}
		return append(all, answer{string(image(d)), d.Calls(), api.OK})
	}
	fresh, _ := disk.New(8)
	for _, d := range []*disk.Disk{
		nil, fresh, laid(t, 8, 0, mixed(1, 256)), laid(t, 8, 2, padded(framed(mixed(2, 40)), 4)), laid(t, 1, 0, framed(mixed(3, 25))),
	} {
		x, y := d.Cut(0, nil, 0), d.Cut(0, nil, 0)
		if !slices.Equal(ask(x), ask(y)) {
			t.Errorf("%d blocks: the same calls are answered otherwise", d.Blocks())
		}
	}
}
