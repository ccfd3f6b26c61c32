package journal

import (
	"bytes"
	"slices"
	"testing"

	"headgate/api"
	"headgate/disk"
)

// script is what is done to a journal: a record of so many bytes is appended, or, for 0, the disk is synced.
type script []int

// story is a script that was done, and what is known after each number of the disk's calls.
type story struct {
	d       *disk.Disk
	records [][]byte
	begun   []int // how many records were begun at the most
	synced  []int // how many were synced
	pending []int // how many calls came after the last Sync
}

// blank are n bytes 0, whichever k: a write that is lost may leave no trace.
func blank(k, n int) []byte {
	return make([]byte, n)
}

// tell does a script on a region of bytes 0. The k-th record is of(k, its length).
func tell(t testing.TB, s script, of func(k, n int) []byte) *story {
	t.Helper()
	y := &story{d: laid(t, blocks, first, zeros(size)), begun: []int{0}, synced: []int{0}, pending: []int{0}}
	j := open(t, y.d, first, size)
	for _, n := range s {
		synced, before := y.synced[len(y.synced)-1], y.pending[len(y.pending)-1]
		if n == 0 {
			j.Sync()
			synced, before = len(y.records), -1
		} else {
			b := of(len(y.records), n)
			appended(t, j, b)
			y.records = append(y.records, b)
		}
		for len(y.begun) <= y.d.Calls() {
			before++
			y.begun, y.synced, y.pending = append(y.begun, len(y.records)), append(y.synced, synced), append(y.pending, before)
		}
	}
	check(t, j, j.Room(), y.records...)
	return y
}

// choices are all lists of n bools.
func choices(n int) [][]bool {
	var all [][]bool
	for bits := range 1 << n {
		keep := make([]bool, n)
		for i := range keep {
			keep[i] = bits>>i&1 == 1
		}
		all = append(all, keep)
	}
	return all
}

// left gives what failures after at calls may leave, each disk once; pending of the calls came after the last Sync.
func left(d *disk.Disk, at, pending int, torn []int, give func(*disk.Disk)) {
	seen := map[string]bool{}
	for _, keep := range choices(pending) {
		for _, n := range torn {
			x := d.Cut(at, keep, n)
			if s := string(image(x)); !seen[s] {
				seen[s] = true
				give(x)
			}
		}
	}
}

// prefix opens the journal that a failure left, and tells how many of the records it has: the first ones, complete.
func prefix(t testing.TB, x *disk.Disk, records [][]byte) (*Journal, int) {
	t.Helper()
	j := open(t, x, first, size)
	n, room := len(j.Records()), 32*size
	if n > len(records) {
		t.Fatalf("%d records, of %d", n, len(records))
	}
	for _, r := range records[:n] {
		room -= len(r) + 7
	}
	check(t, j, room, records[:n]...)
	if b := image(x)[32*first+32*size-room : 32*first+32*size]; !bytes.Equal(b, make([]byte, room)) {
		t.Fatalf("behind %d records: %q", n, b)
	}
	return j, n
}

// checkOpened holds a disk that was opened against failures at each moment of the opening: the same records are there.
func checkOpened(t testing.TB, x *disk.Disk, torn []int, records [][]byte) {
	t.Helper()
	calls := x.Calls()
	for at := range calls + 1 {
		pending := at
		if at == calls { // the last call is a Sync
			pending = 0
		}
		left(x, at, pending, torn, func(y *disk.Disk) {
			if _, n := prefix(t, y, records); n != len(records) {
				t.Fatalf("a failure after %d of %d calls of Open: %d records of %d", at, calls, n, len(records))
			}
		})
	}
}

// checkGoesOn appends records as long as the lost ones, and others: nothing that was lost comes to life again.
func checkGoesOn(t testing.TB, j *Journal, x *disk.Disk, records [][]byte, n int) {
	t.Helper()
	have := slices.Clone(records[:n])
	for k, r := range records[n:] {
		have = append(have, mixed(40+k, len(r)))
		appended(t, j, have[len(have)-1])
		check(t, open(t, x, first, size), j.Room(), have...)
		if e := j.Sync(); e != api.OK {
			t.Fatalf("Sync: %v", e)
		}
		check(t, open(t, x.Cut(x.Calls(), nil, 0), first, size), j.Room(), have...)
	}
}

// checkFailures lets the power fail at each moment of a script.
func checkFailures(t testing.TB, s script, of func(k, n int) []byte, torn, tornAgain []int) {
	t.Helper()
	y := tell(t, s, of)
	for at := range y.d.Calls() + 1 {
		left(y.d, at, y.pending[at], torn, func(x *disk.Disk) {
			j, n := prefix(t, x, y.records)
			if n < y.synced[at] || n > y.begun[at] {
				t.Fatalf("%v: a failure after %d calls: %d records; %d were synced, %d begun", s, at, n, y.synced[at], y.begun[at])
			}
			checkOpened(t, x, tornAgain, y.records[:n])
			checkGoesOn(t, j, x, y.records, n)
		})
	}
}

// everyTorn are all places where a write of a block may be torn.
func everyTorn() []int {
	var all []int
	for n := range 33 {
		all = append(all, n)
	}
	return all
}

// P5.2: at each moment, with every choice of what is kept, torn at every byte; and once more during the opening.
func TestFailures(t *testing.T) {
	for _, s := range []script{
		{},
		{0, 0},
		{1},
		{1, 0, 1, 1, 1, 0, 1}, // in one block
		{25, 0, 25, 25, 25},   // a block each
		{25, 25, 25, 25, 0},   // the region is full
		{26, 24, 0, 1, 23, 0},
		{3, 60, 0, 9, 20}, // a frame that several blocks have
		{100, 0, 14},
		{10, 0, 90, 0, 7},
		{57, 57},
		{121, 0},
		{40, 0, 1, 0, 0, 56, 1},
	} {
		checkFailures(t, s, mixed, everyTorn(), []int{0, 1, 5, 16, 31, 32})
		checkFailures(t, s, blank, everyTorn(), []int{0, 1, 5, 16, 31, 32})
	}
}

// All scripts of few steps.
func TestFailuresOfEveryScript(t *testing.T) {
	var grow func(script)
	grow = func(s script) {
		checkFailures(t, s, mixed, []int{0, 1, 8, 17, 32}, []int{0, 9, 32})
		if len(s) == 4 {
			return
		}
		for _, n := range []int{0, 1, 20, 25} {
			grow(append(slices.Clone(s), n))
		}
	}
	grow(nil)
}

// What a lost record left is gone for good: without it, a later one would stand behind the record that takes its place.
func TestLostRecords(t *testing.T) {
	y := tell(t, script{25, 0, 25, 25, 25}, mixed)
	x := y.d.Cut(y.d.Calls(), []bool{false, true, true}, 32)
	want := x.Cut(0, nil, 0)
	j := open(t, x, first, size)
	check(t, j, 96, y.records[0])
	write(t, want, first+3, make([]byte, 32))
	write(t, want, first+2, make([]byte, 32))
	want.Sync()
	checkSame(t, x, want)
	appended(t, j, mixed(9, 25))
	j.Sync()
	check(t, open(t, x.Cut(x.Calls(), nil, 0), first, size), 64, y.records[0], mixed(9, 25))
}

// Failures follow upon failures: each leaves what was synced, and nothing that comes to life later.
func TestFailuresAgain(t *testing.T) {
	y := tell(t, script{30, 0, 20, 20, 1}, mixed)
	for at := range y.d.Calls() + 1 {
		left(y.d, at, y.pending[at], []int{0, 3, 12, 27, 32}, func(x *disk.Disk) {
			j, n := prefix(t, x, y.records)
			have := y.records[:n:n]
			if j.Room() < 60 {
				return
			}
			opened := x.Calls()
			have = append(have, mixed(20, 20), mixed(21, 20))
			appended(t, j, have[n])
			appended(t, j, have[n+1])
			for later := opened; later <= x.Calls(); later++ {
				left(x, later, later-opened, []int{0, 3, 12, 27, 32}, func(z *disk.Disk) {
					if _, m := prefix(t, z, have); m < n {
						t.Fatalf("%d records were opened, and %d after another failure", n, m)
					}
				})
			}
		})
	}
}
