package disk

import (
	"bytes"
	"math"
	"slices"
	"testing"

	"headgate/api"
)

// fill is a block of one byte only.
func fill(c byte) []byte {
	return bytes.Repeat([]byte{c}, api.BlockSize)
}

// pattern is a block for each k from 0 to 6: no byte of it is 0, or stands anywhere else in any of them.
func pattern(k int) []byte {
	b := make([]byte, api.BlockSize)
	for i := range b {
		b[i] = byte(k*api.BlockSize + i + 1)
	}
	return b
}

// joined is the beginning of one block, and the rest of another one.
func joined(a []byte, size int, b []byte) []byte {
	return append(slices.Clone(a[:size]), b[size:]...)
}

func made(t testing.TB, blocks int) *Disk {
	t.Helper()
	d, e := New(blocks)
	if d == nil || e != api.OK {
		t.Fatalf("New(%d): %v, %v", blocks, d, e)
	}
	return d
}

func write(t testing.TB, d *Disk, n int, b []byte) {
	t.Helper()
	if e := d.Write(n, b); e != api.OK {
		t.Fatalf("Write(%d, %q): %v", n, b, e)
	}
}

func sync(t testing.TB, d *Disk) {
	t.Helper()
	if e := d.Sync(); e != api.OK {
		t.Fatalf("Sync: %v", e)
	}
}

func cut(t testing.TB, d *Disk, at int, keep []bool, torn int) *Disk {
	t.Helper()
	x := d.Cut(at, keep, torn)
	if x == nil || x.Blocks() != d.Blocks() || x.Calls() != 0 {
		t.Fatalf("Cut(%d, %v, %d): %d blocks after %d calls; want %d after 0", at, keep, torn, x.Blocks(), x.Calls(), d.Blocks())
	}
	return x
}

func check(t testing.TB, d *Disk, n int, want []byte) {
	t.Helper()
	if b, e := d.Read(n); e != api.OK || !bytes.Equal(b, want) {
		t.Fatalf("Read(%d): %v, %v; want %v", n, b, e, want)
	}
}

// checkAll holds a disk's blocks against what they are to be.
func checkAll(t testing.TB, d *Disk, want ...[]byte) {
	t.Helper()
	if d.Blocks() != len(want) {
		t.Fatalf("%d blocks; want %d", d.Blocks(), len(want))
	}
	for n, b := range want {
		check(t, d, n, b)
	}
}

// far are numbers far from every block, call and size.
func far() []int {
	return []int{math.MinInt, math.MinInt + 1, -1 << 32, -1 << 31, 1 << 31, 1 << 32, math.MaxInt - 1, math.MaxInt}
}

func TestNew(t *testing.T) {
	for _, blocks := range []int{1, 2, 3, 31, 32, 33, 1<<16 - 1, 1 << 16} {
		d := made(t, blocks)
		if d.Blocks() != blocks || d.Calls() != 0 {
			t.Errorf("New(%d): %d blocks, %d calls", blocks, d.Blocks(), d.Calls())
		}
		for n := range blocks {
			check(t, d, n, fill(0))
		}
		for _, n := range append(far(), -1, -blocks, blocks, blocks+1, 1<<16) {
			if b, e := d.Read(n); len(b) != 0 || e != api.ErrBlock {
				t.Errorf("Read(%d) of %d blocks: %v, %v", n, blocks, b, e)
			}
		}
	}
}

func TestNewOfNoDisk(t *testing.T) {
	for _, blocks := range append(far(), 0, -1, -2, -1<<16, 1<<16+1, 1<<17) {
		if d, e := New(blocks); d != nil || e != api.ErrArg {
			t.Errorf("New(%d): %v, %v", blocks, d, e)
		}
	}
}

func TestAccess(t *testing.T) {
	for _, blocks := range []int{1, 2, 33, 1 << 16} {
		d := made(t, blocks)
		first, last := 0, blocks-1
		write(t, d, first, pattern(0))
		check(t, d, first, pattern(0))
		write(t, d, last, pattern(1))
		check(t, d, last, pattern(1))
		write(t, d, last, pattern(2))
		check(t, d, last, pattern(2))
		for n := 1; n < last; n++ {
			check(t, d, n, fill(0))
		}
		if blocks > 1 {
			check(t, d, first, pattern(0))
		}
		sync(t, d)
		check(t, d, last, pattern(2))
		write(t, d, last, fill(0))
		check(t, d, last, fill(0))
		if d.Calls() != 5 || d.Blocks() != blocks {
			t.Errorf("%d calls, %d blocks; want 5, %d", d.Calls(), d.Blocks(), blocks)
		}
	}
}

func TestCalls(t *testing.T) {
	d := made(t, 2)
	for n := range 40 {
		if d.Calls() != n {
			t.Fatalf("Calls: %d; want %d", d.Calls(), n)
		}
		d.Read(0)
		d.Read(2)
		d.Blocks()
		d.Cut(n, []bool{true}, 3)
		d.Write(2, fill('a'))
		d.Write(-1, nil)
		d.Write(0, nil)
		if d.Calls() != n {
			t.Fatalf("Calls: %d after calls that do not count; want %d", d.Calls(), n)
		}
		if n%3 == 2 {
			sync(t, d)
		} else {
			write(t, d, n%2, fill(0))
		}
	}
}

// What is refused changes neither a block nor the numbers of the calls and of the writes.
func TestWriteRefused(t *testing.T) {
	long := append(pattern(5), pattern(6)...)
	for _, c := range []struct {
		n    int
		b    []byte
		want api.Errno
	}{
		{0, nil, api.ErrArg},
		{0, []byte{}, api.ErrArg},
		{0, long[:1], api.ErrArg},
		{0, long[:31], api.ErrArg},
		{0, long[:33], api.ErrArg},
		{0, long[:64], api.ErrArg},
		{1, long[:31:31], api.ErrArg},
		{1, long[:33:33], api.ErrArg},
		{2, long[:32], api.ErrBlock},
		{3, long[:32], api.ErrBlock},
		{-1, long[:32], api.ErrBlock},
		{-2, long[:32], api.ErrBlock},
		{1 << 16, long[:32], api.ErrBlock},
		{math.MinInt, long[:32], api.ErrBlock},
		{math.MaxInt, long[:32], api.ErrBlock},
		{2, nil, api.ErrBlock}, // both are wrong: the block goes first
		{-1, long[:31], api.ErrBlock},
		{math.MaxInt, long[:33], api.ErrBlock},
	} {
		d := made(t, 2)
		write(t, d, 0, pattern(0))
		sync(t, d)
		write(t, d, 1, pattern(1))
		if e := d.Write(c.n, c.b); e != c.want {
			t.Errorf("Write(%d, %d bytes): %v; want %v", c.n, len(c.b), e, c.want)
		}
		write(t, d, 0, pattern(2))
		checkAll(t, d, pattern(2), pattern(1))
		if d.Calls() != 4 {
			t.Errorf("Calls: %d; want 4", d.Calls())
		}
		checkAll(t, cut(t, d, 3, []bool{true, true}, 32), pattern(0), pattern(1))
		checkAll(t, cut(t, d, 4, []bool{false, true}, 32), pattern(2), fill(0))
		checkAll(t, cut(t, d, 4, nil, 32), pattern(0), fill(0))
	}
}

func TestNil(t *testing.T) {
	var d *Disk
	if d.Blocks() != 0 || d.Calls() != 0 {
		t.Errorf("nil: %d blocks, %d calls", d.Blocks(), d.Calls())
	}
	for _, n := range append(far(), -1, 0, 1) {
		if b, e := d.Read(n); len(b) != 0 || e != api.ErrArg {
			t.Errorf("Read(%d): %v, %v", n, b, e)
		}
		for _, b := range [][]byte{nil, fill('a'), fill('a')[:31]} {
			if e := d.Write(n, b); e != api.ErrArg {
				t.Errorf("Write(%d, %d bytes): %v", n, len(b), e)
			}
		}
		if x := d.Cut(n, []bool{true}, n); x != nil {
			t.Errorf("Cut(%d): %v", n, x)
		}
	}
	if e := d.Sync(); e != api.ErrArg {
		t.Errorf("Sync: %v", e)
	}
	if d.Calls() != 0 {
		t.Errorf("nil: %d calls", d.Calls())
	}
}

// Rule 4: no argument is kept or changed, no result is shared.
func TestMemory(t *testing.T) {
	d := made(t, 2)
	long := append(pattern(0), pattern(1)...)
	b := long[:32]
	write(t, d, 0, b)
	clear(b)
	check(t, d, 0, pattern(0))
	checkAll(t, cut(t, d, 1, []bool{true}, 32), pattern(0), fill(0))
	if !bytes.Equal(long[32:], pattern(1)) {
		t.Errorf("Write changed what lies behind its argument: %v", long[32:])
	}
	for range 2 {
		for n, want := range [][]byte{pattern(0), fill(0)} {
			r, _ := d.Read(n)
			s, _ := d.Read(n)
			r = append(r, 7)
			for i := range r {
				r[i] ^= 0xff
			}
			if !bytes.Equal(s, want) {
				t.Errorf("Read(%d) shares its memory with another one: %v", n, s)
			}
			check(t, d, n, want)
		}
		sync(t, d)
	}
	c := slices.Clone(pattern(2))
	write(t, d, 1, c)
	if !bytes.Equal(c, pattern(2)) {
		t.Errorf("Write changed its argument: %v", c)
	}
	x := cut(t, d, d.Calls(), nil, 0)
	r, _ := x.Read(0)
	clear(r)
	check(t, x, 0, pattern(0))
	check(t, d, 0, pattern(0))
}

func TestKeepIsOnlyRead(t *testing.T) {
	d := made(t, 3)
	for n := range 3 {
		write(t, d, n, pattern(n))
	}
	all := []bool{true, true, true, true}
	for n := range 4 {
		x := cut(t, d, 3, all[:n], 32)
		for k := range 3 {
			want := fill(0)
			if k < n { // what lies behind the length is true, but isn't read
				want = pattern(k)
			}
			check(t, x, k, want)
		}
	}
	keep := []bool{false, true, false}
	x := cut(t, d, 3, keep, 5)
	if !slices.Equal(keep, []bool{false, true, false}) {
		t.Errorf("Cut changed keep: %v", keep)
	}
	keep[0], keep[1] = true, false
	checkAll(t, x, fill(0), joined(pattern(1), 5, fill(0)), fill(0))
}

func TestCut(t *testing.T) {
	d := made(t, 2)
	write(t, d, 0, pattern(0)) // call 1
	sync(t, d)
	write(t, d, 0, pattern(1)) // call 3
	write(t, d, 1, pattern(2))
	write(t, d, 0, pattern(3))
	sync(t, d)
	write(t, d, 1, pattern(4)) // call 7
	zero, p := fill(0), pattern
	for _, c := range []struct {
		at   int
		keep []bool
		torn int
		a, b []byte
	}{
		{0, nil, 32, zero, zero},
		{0, []bool{true, true}, 32, zero, zero},
		{1, nil, 32, zero, zero},
		{1, []bool{false, true}, 32, zero, zero},
		{1, []bool{true}, 0, zero, zero},
		{1, []bool{true}, 1, joined(p(0), 1, zero), zero},
		{1, []bool{true}, 31, joined(p(0), 31, zero), zero},
		{1, []bool{true}, 32, p(0), zero},
		{1, []bool{true, true, true}, 32, p(0), zero}, // the later calls aren't there yet
		{2, nil, 0, p(0), zero},
		{2, []bool{true}, 3, p(0), zero}, // there is no write left that could be torn
		{3, nil, 5, p(0), zero},
		{3, []bool{true}, 5, joined(p(1), 5, p(0)), zero},
		{4, []bool{true, false}, 5, joined(p(1), 5, p(0)), zero},
		{4, []bool{false, true}, 5, p(0), joined(p(2), 5, zero)},
		{4, []bool{true, true}, 5, p(1), joined(p(2), 5, zero)}, // only the last one is torn
		{4, []bool{true, true}, 0, p(1), zero},
		{5, nil, 5, p(0), zero},
		{5, []bool{true}, 32, p(1), zero},
		{5, []bool{true, true}, 32, p(1), p(2)},
		{5, []bool{true, true, true}, 32, p(3), p(2)},
		{5, []bool{true, true, true}, 9, joined(p(3), 9, p(1)), p(2)},
		{5, []bool{false, true, true}, 9, joined(p(3), 9, p(0)), p(2)},
		{5, []bool{false, false, true}, 9, joined(p(3), 9, p(0)), zero},
		{5, []bool{true, false, true}, 0, p(1), zero},
		{6, nil, 0, p(3), p(2)},
		{6, []bool{false, false, false}, 0, p(3), p(2)},
		{6, []bool{true, true, true}, 9, p(3), p(2)},
		{7, nil, 32, p(3), p(2)},
		{7, []bool{true}, 32, p(3), p(4)},
		{7, []bool{true}, 9, p(3), joined(p(4), 9, p(2))},
		{7, []bool{false, true, true, true, true, true, true}, 32, p(3), p(2)}, // keep begins behind the last Sync
		{8, []bool{true}, 32, zero, zero},                                      // 7 calls: 8 is 0
		{9, []bool{true}, 32, p(0), zero},
		{15, []bool{true}, 33, p(3), p(2)}, // 33 bytes are none
		{15, []bool{true}, 34, p(3), joined(p(4), 1, p(2))},
		{-1, []bool{true}, 32, zero, zero}, // -1 is 0, -2 is 1
		{-2, []bool{true}, 32, p(0), zero},
		{-8, []bool{true}, 32, p(3), p(4)},
		{-9, []bool{true}, 32, zero, zero},
		{7, []bool{true}, -1, p(3), p(2)},
		{7, []bool{true}, -2, p(3), joined(p(4), 1, p(2))},
		{7, []bool{true}, -33, p(3), p(4)},
		{7, []bool{true}, -34, p(3), p(2)},
	} {
		x := cut(t, d, c.at, c.keep, c.torn)
		a, _ := x.Read(0)
		b, _ := x.Read(1)
		if !bytes.Equal(a, c.a) || !bytes.Equal(b, c.b) {
			t.Errorf("Cut(%d, %v, %d):\n%v\n%v\nwant\n%v\n%v", c.at, c.keep, c.torn, a, b, c.a, c.b)
		}
	}
	checkAll(t, d, p(3), p(4))
}

// below brings a number below a modulus step by step, as the document's words tell it.
func below(n, modulus int) int {
	if n < 0 {
		n = -(n + 1)
	}
	for n >= modulus {
		n -= modulus
	}
	return n
}

func TestCutReduces(t *testing.T) {
	d := made(t, 1)
	for calls := range 5 {
		for n := -40; n <= 110; n++ {
			at, torn := below(n, calls+1), below(n, 33)
			for _, keep := range [][]bool{nil, {true, true, true, true}} {
				want, _ := cut(t, d, at, keep, 7).Read(0)
				check(t, cut(t, d, n, keep, 7), 0, want)
				want, _ = cut(t, d, calls, keep, torn).Read(0)
				check(t, cut(t, d, calls, keep, n), 0, want)
			}
		}
		write(t, d, 0, pattern(calls))
	}
	// 2^63 leaves 3 by 5, and 8 by 33: the greatest int one less.
	for _, at := range []int{math.MaxInt, math.MinInt} {
		c := made(t, 1)
		for k := range 4 {
			write(t, c, 0, pattern(k))
		}
		check(t, cut(t, c, at, []bool{true, true, true, true}, 32), 0, pattern(1))
		check(t, cut(t, c, 4, []bool{true}, at), 0, joined(pattern(0), 7, fill(0)))
	}
}

// step is a call of a test: a Write of block n, or a Sync if n is below 0. Its number tells the bytes.
type step int

// told is a block's bytes after a cut, as the document's words tell them: of each byte, from its last write on backwards.
func told(steps []step, n, at int, keep []bool, torn int) []byte {
	safe, last := 0, -1
	for i := range at {
		if steps[i] < 0 {
			safe = i + 1
		}
	}
	for i := safe; i < at; i++ {
		if i-safe < len(keep) && keep[i-safe] {
			last = i
		}
	}
	b := fill(0)
	for k := range b {
		for i := at - 1; i >= 0; i-- {
			lost := i >= safe && !(i-safe < len(keep) && keep[i-safe])
			if int(steps[i]) != n || lost || i == last && k >= torn {
				continue
			}
			b[k] = pattern(i)[k]
			break
		}
	}
	return b
}

// done is a disk of two blocks on which the steps were taken.
func done(t testing.TB, steps []step) *Disk {
	t.Helper()
	d := made(t, 2)
	for k, s := range steps {
		if s < 0 {
			sync(t, d)
		} else {
			write(t, d, int(s), pattern(k))
		}
	}
	return d
}

// keeps are all lists of at most n bools.
func keeps(n int) [][]bool {
	all := [][]bool{nil}
	for from := 0; n > 0; n-- {
		to := len(all)
		for ; from < to; from++ {
			all = append(all, append(slices.Clone(all[from]), false), append(slices.Clone(all[from]), true))
		}
	}
	return all
}

// everyHistory gives all lists of at most n steps.
func everyHistory(n int, give func([]step)) {
	var grow func([]step)
	grow = func(steps []step) {
		give(steps)
		if len(steps) == n {
			return
		}
		for s := step(-1); s < 2; s++ {
			grow(append(steps[:len(steps):len(steps)], s))
		}
	}
	grow(nil)
}

func TestCutOfEveryHistory(t *testing.T) {
	all := keeps(4)
	everyHistory(4, func(steps []step) {
		d := done(t, steps)
		for at := range len(steps) + 1 {
			for _, keep := range all {
				for _, torn := range []int{0, 1, 17, 31, 32} {
					x := d.Cut(at, keep, torn)
					for n := range 2 {
						if b, e := x.Read(n); e != api.OK || !bytes.Equal(b, told(steps, n, at, keep, torn)) {
							t.Fatalf("%v, Cut(%d, %v, %d): block %d is %v, %v", steps, at, keep, torn, n, b, e)
						}
					}
				}
			}
		}
	})
}

// P2.2, held against what was durable and what was written alone.
func TestDurability(t *testing.T) {
	everyHistory(6, func(steps []step) {
		d := done(t, steps)
		for at := range len(steps) + 1 {
			var safe, might [2][api.BlockSize]byte
			var written [2][]int
			for i, s := range steps[:at] {
				if s < 0 {
					safe, written = might, [2][]int{}
					continue
				}
				might[s] = [api.BlockSize]byte(pattern(i))
				written[s] = append(written[s], i)
			}
			for _, keep := range keeps(2) {
				x := d.Cut(at, append(keep, true, true, false, true), at*7)
				for n := range 2 {
					checkByte(t, x, n, safe[n][:], written[n])
				}
			}
		}
	})
}

func checkByte(t *testing.T, x *Disk, n int, safe []byte, written []int) {
	t.Helper()
	b, e := x.Read(n)
	if e != api.OK || len(b) != api.BlockSize {
		t.Fatalf("Read(%d): %v, %v", n, b, e)
	}
	for k, c := range b {
		ok := c == safe[k]
		for _, i := range written {
			ok = ok || c == pattern(i)[k]
		}
		if !ok {
			t.Fatalf("byte %d of block %d is %d: it was %d, and %v were written", k, n, c, safe[k], written)
		}
	}
}

// What a cut left is all durable; and neither disk sees what is done to the other one.
func TestCutIsADiskOfItsOwn(t *testing.T) {
	d := made(t, 3)
	write(t, d, 0, pattern(0))
	sync(t, d)
	write(t, d, 1, pattern(1))
	write(t, d, 0, pattern(2))
	x := cut(t, d, 4, []bool{true, true}, 4)
	left := joined(pattern(2), 4, pattern(0))
	for _, at := range append(far(), -1, 0, 1, 2) {
		checkAll(t, cut(t, x, at, []bool{true, true}, 3), left, pattern(1), fill(0))
	}
	write(t, x, 0, pattern(3))
	write(t, x, 2, pattern(4))
	if x.Calls() != 2 || d.Calls() != 4 {
		t.Errorf("Calls: %d of the cut, %d of the disk; want 2, 4", x.Calls(), d.Calls())
	}
	checkAll(t, x, pattern(3), pattern(1), pattern(4))
	checkAll(t, d, pattern(2), pattern(1), fill(0))
	checkAll(t, cut(t, x, 2, nil, 32), left, pattern(1), fill(0))
	checkAll(t, cut(t, x, 2, []bool{true, true}, 5), pattern(3), pattern(1), joined(pattern(4), 5, fill(0)))
	checkAll(t, cut(t, x, 1, []bool{true, true}, 5), joined(pattern(3), 5, left), pattern(1), fill(0))
	write(t, d, 2, pattern(5))
	sync(t, d)
	checkAll(t, x, pattern(3), pattern(1), pattern(4))
	sync(t, x)
	y := cut(t, x, 3, nil, 0)
	checkAll(t, y, pattern(3), pattern(1), pattern(4))
	checkAll(t, cut(t, d, 6, nil, 0), pattern(2), pattern(1), pattern(5))
	checkAll(t, cut(t, d, 4, []bool{true, true}, 4), left, pattern(1), fill(0))
	write(t, y, 1, pattern(6))
	checkAll(t, x, pattern(3), pattern(1), pattern(4))
}

func TestManyBlocks(t *testing.T) {
	const blocks = 1 << 16
	d := made(t, blocks)
	of := func(n int) []byte {
		b := fill(byte(n))
		b[1], b[31] = byte(n>>8), 1
		return b
	}
	for n := range blocks {
		write(t, d, n, of(n))
	}
	sync(t, d)
	keep := make([]bool, blocks)
	for n := range blocks {
		write(t, d, blocks-1-n, fill(0xee))
		keep[n] = n%3 == 0
	}
	if d.Calls() != 2*blocks+1 {
		t.Errorf("Calls: %d", d.Calls())
	}
	x := cut(t, d, 2*blocks+1, keep, 32)
	for n := range blocks {
		want := of(n)
		if (blocks-1-n)%3 == 0 {
			want = fill(0xee)
		}
		check(t, x, n, want)
	}
	x = cut(t, d, blocks, append(keep[:blocks-1:blocks-1], true), 2)
	check(t, x, 0, of(0))
	check(t, x, 1, fill(0))
	check(t, x, blocks-1, joined(of(blocks-1), 2, fill(0)))
}

// P1 and P2 of the document: whatever is asked, no call panics, and the same calls are answered alike.
func TestTotalAndSame(t *testing.T) {
	type answer struct {
		bytes string
		e     api.Errno
		n     int
	}
	numbers := append(far(), -34, -33, -32, -2, -1, 0, 1, 2, 3, 31, 32, 33, 34)
	ask := func(d *Disk) []answer {
		var all []answer
		for i, n := range numbers {
			size := numbers[i%len(numbers)]
			e := d.Write(n, fill('w')[:min(32, max(0, size))])
			all = append(all, answer{"", e, d.Calls()}, answer{"", d.Sync(), d.Blocks()})
			x := d.Cut(n, []bool{true, i%2 == 0, true}, numbers[len(numbers)-1-i])
			for _, k := range numbers {
				b, e := d.Read(k)
				c, f := x.Read(k)
				all = append(all, answer{string(b), e, d.Calls()}, answer{string(c), f, x.Calls()})
			}
			x.Write(n, fill('x'))
		}
		return all
	}
	for _, blocks := range []int{0, 1, 2, 40} { // 0: nil
		a, _ := New(blocks)
		b, _ := New(blocks)
		first := ask(a)
		if again := ask(b); !slices.Equal(first, again) {
			t.Errorf("%d blocks: the same calls are answered otherwise", blocks)
		}
		before := a.Cut(5, []bool{true}, 6)
		x, y := before.Cut(0, nil, 0), before.Cut(0, nil, 0)
		if !slices.Equal(ask(x), ask(y)) {
			t.Errorf("%d blocks: the same calls are answered otherwise after a cut", blocks)
		}
	}
}
