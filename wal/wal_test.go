package wal

import (
	"reflect"
	"strings"
	"testing"
	"unsafe"

	"gauze/api"
	"gauze/blocks"
)

const farPast = 1 << 40 // more changing calls than any test makes

func zeros(n int) string { return strings.Repeat("\x00", n) }

// filled is a block that begins with this.
func filled(data string) string { return data + zeros(blocks.Size-len(data)) }

func open(t *testing.T, d *blocks.Disk) *Log {
	t.Helper()
	l, e := Open(d)
	if l == nil || e != api.OK {
		t.Fatalf("Open = %v, %d", l, e)
	}
	return l
}

func mustPut(t *testing.T, l *Log, data string, list ...int) {
	t.Helper()
	for _, at := range list {
		if e := l.Put(at, data); e != api.OK {
			t.Fatalf("Put(%d) = %d", at, e)
		}
	}
}

func mustCommit(t *testing.T, l *Log) {
	t.Helper()
	if e := l.Commit(); e != api.OK {
		t.Fatalf("Commit = %d", e)
	}
}

func expect(t *testing.T, l *Log, at int, data string) {
	t.Helper()
	if got, e := l.Get(at); e != api.OK || got != filled(data) {
		t.Errorf("Get(%d) = %.20q, %d, want %.20q", at, got, e, data)
	}
}

// refuse: Get answers an error, and nothing else.
func refuse(t *testing.T, l *Log, at int, want api.Errno) {
	t.Helper()
	if got, e := l.Get(at); got != "" || e != want {
		t.Errorf("Get(%d) = %.20q, %d, want the error %d", at, got, e, want)
	}
}

// P4: what is no disk, or too small a one, is refused; that it is dead comes behind.
func TestOpenRefusesSmallDisks(t *testing.T) {
	for n := -1; n <= api.LogSize; n++ {
		alive, dead := blocks.New(n), blocks.New(n)
		dead.Die(0)
		for _, d := range []*blocks.Disk{alive, dead} {
			if l, e := Open(d); l != nil || e != api.ErrArg {
				t.Errorf("Open of %d blocks = %v, %d", n, l, e)
			}
		}
	}
	for _, d := range []*blocks.Disk{nil, {}} {
		if l, e := Open(d); l != nil || e != api.ErrArg {
			t.Errorf("Open of no disk = %v, %d", l, e)
		}
	}
}

// P4: a disk that is dead, or fails, is told of.
func TestOpenOfADiskThatFails(t *testing.T) {
	d := blocks.New(100)
	d.Fail(0)
	if l, e := Open(d); l != nil || e != api.ErrDisk || d.Failed() != 1 {
		t.Errorf("Open of a disk that fails = %v, %d", l, e)
	}
	expect(t, open(t, d), 0, "")
	d.Die(0)
	if l, e := Open(d); l != nil || e != api.ErrDisk {
		t.Errorf("Open of a dead disk = %v, %d", l, e)
	}
	d.Crash(nil)
	l := open(t, d)
	expect(t, l, 0, "")
	mustPut(t, l, "x", 0)
	d.Die(3) // a block, Flush, and the record, which the crash keeps
	l.Commit()
	d.Crash([]int{1})
	d.Die(1)
	if l, e := Open(d); l != nil || e != api.ErrDisk {
		t.Errorf("Open of a disk that dies ahead of what is to be read = %v, %d", l, e)
	}
	d.Crash(nil)
	expect(t, open(t, d), 0, "x")
}

// P4: there are as many blocks as are left of the disk, all 0 on a new one.
func TestBlocks(t *testing.T) {
	for _, n := range []int{api.LogSize + 1, api.LogSize + 2, 200, api.MinSize, 4096} {
		l := open(t, blocks.New(n))
		if l.Blocks() != n-api.LogSize {
			t.Errorf("of %d blocks: Blocks = %d", n, l.Blocks())
		}
		for at := range l.Blocks() {
			expect(t, l, at, "")
		}
	}
}

// P5: a block that is not there is refused, ahead of anything else.
func TestNoSuchBlock(t *testing.T) {
	d := blocks.New(100)
	l := open(t, d)
	wrong := []int{-1, -api.LogSize, 10, 11, 99, 1 << 16, 1<<63 - 1, -1 << 63, 1<<63 - api.LogSize}
	check := func() {
		t.Helper()
		for _, at := range wrong {
			refuse(t, l, at, api.ErrArg)
			if e := l.Put(at, ""); e != api.ErrArg {
				t.Errorf("Put(%d) = %d", at, e)
			}
		}
	}
	check()
	d.Die(0)
	check()
	mustPut(t, l, "x", 0)
	if e := l.Commit(); e != api.ErrDisk {
		t.Errorf("Commit on a dead disk = %d", e)
	}
	check()
}

// P5: a block takes up to 256 bytes, and has bytes 0 behind them.
func TestPutFillsUp(t *testing.T) {
	d := blocks.New(95)
	l := open(t, d)
	for _, n := range []int{256, 255, 1, 0, 256} {
		data := strings.Repeat("\xff", n)
		mustPut(t, l, data, 4)
		expect(t, l, 4, data)
		mustCommit(t, l)
		expect(t, l, 4, data)
		expect(t, open(t, d.Copy()), 4, data)
	}
	for _, n := range []int{257, 512, 1 << 20} {
		if e := l.Put(4, strings.Repeat("x", n)); e != api.ErrArg {
			t.Errorf("Put of %d bytes = %d", n, e)
		}
	}
	expect(t, l, 4, strings.Repeat("\xff", 256))
	expect(t, l, 3, "")
}

// P5: Get tells what was put last; others are told as they are sure.
func TestGetTellsWhatWasPutLast(t *testing.T) {
	l := open(t, blocks.New(100))
	mustPut(t, l, "sure", 1, 2, 9)
	mustCommit(t, l)
	mustPut(t, l, "longer than the next", 2)
	mustPut(t, l, "next", 2, 3)
	mustPut(t, l, "", 9)
	for at, data := range []string{"", "sure", "next", "next", "", "", "", "", "", ""} {
		expect(t, l, at, data)
	}
}

// P5: what is dropped is as though it had not been put.
func TestDrop(t *testing.T) {
	d := blocks.New(100)
	l := open(t, d)
	l.Drop()
	mustPut(t, l, "sure", 1, 2)
	mustCommit(t, l)
	l.Drop()
	mustPut(t, l, "gone", 2, 3)
	l.Drop()
	mustPut(t, l, "kept", 4)
	mustCommit(t, l)
	for _, log := range []*Log{l, open(t, d)} {
		for at, data := range []string{"", "sure", "sure", "", "kept"} {
			expect(t, log, at, data)
		}
	}
}

// P5: what was put, and no more than put, is not on the disk.
func TestPutAloneChangesNothing(t *testing.T) {
	d := blocks.New(100)
	l := open(t, d)
	was := d.Copy()
	mustPut(t, l, "x", 0, 9)
	l.Drop()
	mustPut(t, l, "y", 1)
	if !reflect.DeepEqual(d, was) {
		t.Error("Put or Drop has changed the disk")
	}
	expect(t, open(t, d), 1, "")
}

// fill puts as many blocks as may be; one more is refused, one of them again is not, and a wrong one is refused as wrong.
func fill(t *testing.T, l *Log, from int) {
	t.Helper()
	for i := range api.MaxPuts {
		mustPut(t, l, "full", from+i)
	}
	for range 2 {
		if e := l.Put(from+api.MaxPuts, "over"); e != api.ErrFull {
			t.Errorf("Put of one more = %d", e)
		}
		if e := l.Put(from+api.MaxPuts, strings.Repeat("x", 257)); e != api.ErrArg {
			t.Errorf("Put of one more, and too long = %d", e)
		}
		if e := l.Put(l.Blocks(), ""); e != api.ErrArg {
			t.Errorf("Put of one more that is not there = %d", e)
		}
		mustPut(t, l, "again", from, from+api.MaxPuts-1)
	}
}

// P5: a transaction has room for MaxPuts blocks, each time anew.
func TestFull(t *testing.T) {
	d := blocks.New(300)
	l := open(t, d)
	fill(t, l, 0)
	expect(t, l, api.MaxPuts, "")
	l.Drop()
	fill(t, l, 100)
	mustCommit(t, l)
	fill(t, l, 20)
	l = open(t, d)
	fill(t, l, 50)
	d.Fail(0)
	if e := l.Commit(); e != api.ErrDisk {
		t.Errorf("Commit on a disk that fails = %d", e)
	}
	fill(t, l, 60)
	if e := l.Commit(); e != api.ErrDisk {
		t.Errorf("Commit behind one that failed = %d", e)
	}
	fill(t, l, 70)
	l = open(t, d)
	expect(t, l, 99, "")
	expect(t, l, 100, "again")
	expect(t, l, 101, "full")
	expect(t, l, 179, "again")
	expect(t, l, 180, "")
}

// P5, P6: on a dead disk Get is refused, of what was put too; Put and Drop are not, nor is a Commit of nothing.
func TestDeadDisk(t *testing.T) {
	d := blocks.New(100)
	l := open(t, d)
	mustPut(t, l, "sure", 1)
	mustCommit(t, l)
	mustPut(t, l, "put", 2)
	d.Die(0)
	for at := range l.Blocks() {
		refuse(t, l, at, api.ErrDisk)
	}
	mustPut(t, l, "put", 3)
	if l.Blocks() != 10 {
		t.Errorf("Blocks = %d", l.Blocks())
	}
	l.Drop()
	mustCommit(t, l)
	mustPut(t, l, "lost", 4)
	if e := l.Commit(); e != api.ErrDisk {
		t.Errorf("Commit on a dead disk = %d", e)
	}
	d.Crash(nil)
	l = open(t, d)
	for at, data := range []string{"", "sure", "", "", ""} {
		expect(t, l, at, data)
	}
}

// P6: a Commit of nothing asks nothing of the disk.
func TestCommitOfNothing(t *testing.T) {
	d := blocks.New(100)
	l := open(t, d)
	d.Fail(0)
	was := d.Copy()
	mustCommit(t, l)
	mustPut(t, l, "x", 1)
	l.Drop()
	mustCommit(t, l)
	if e := l.Put(10, "x"); e != api.ErrArg {
		t.Errorf("Put = %d", e)
	}
	mustCommit(t, l)
	if !reflect.DeepEqual(d, was) {
		t.Error("a Commit of nothing has changed the disk")
	}
}

// P6: behind a Commit that failed the log does nothing till Open, and tells nothing that is not sure.
func TestBehindAFailure(t *testing.T) {
	for fail := range 10 {
		d := blocks.New(100)
		l := open(t, d)
		mustPut(t, l, "sure", 1, 2)
		mustCommit(t, l)
		mustPut(t, l, "new", 1, 3)
		d.Fail(fail)
		if e := l.Commit(); e != api.ErrDisk || d.Failed() != 1 {
			t.Fatalf("call %d fails: Commit = %d", fail, e)
		}
		was := d.Copy()
		mustPut(t, l, "never", 4)
		for at := range l.Blocks() {
			refuse(t, l, at, api.ErrDisk)
		}
		for range 2 {
			mustPut(t, l, "never", 1, 5)
			if e := l.Commit(); e != api.ErrDisk {
				t.Errorf("call %d fails: the next Commit = %d", fail, e)
			}
		}
		l.Drop()
		if !reflect.DeepEqual(d, was) {
			t.Errorf("call %d fails: the next Commit has changed the disk", fail)
		}
		l = open(t, d)
		expect(t, l, 2, "sure")
		expect(t, l, 4, "")
		expect(t, l, 5, "")
		mustPut(t, l, "on", 6)
		mustCommit(t, l)
		expect(t, open(t, d), 6, "on")
	}
}

// P2: what is handed in is not kept: what stands behind the text may change.
func TestPutKeepsNothing(t *testing.T) {
	d := blocks.New(100)
	l := open(t, d)
	for _, n := range []int{3, blocks.Size} {
		bytes := []byte(strings.Repeat("a", n))
		mustPut(t, l, unsafe.String(&bytes[0], n), n%10)
		mustPut(t, l, unsafe.String(&bytes[0], n), n%10)
		bytes[0] = 'b'
		expect(t, l, n%10, strings.Repeat("a", n))
	}
	mustCommit(t, l)
	expect(t, open(t, d), 3, "aaa")
}

// P2: the same calls on the same disk answer the same, and leave the same.
func TestSameAgain(t *testing.T) {
	run := func() (*blocks.Disk, []string) {
		d := blocks.New(130)
		l := open(t, d)
		var told []string
		for i := range 60 {
			mustPut(t, l, strings.Repeat("x", i), i*7%40, i*11%40)
			if i%5 == 0 {
				mustCommit(t, l)
			}
			data, _ := l.Get(i % 40)
			told = append(told, data)
		}
		mustPut(t, l, "end", 1, 2, 3)
		d.Die(5)
		l.Commit()
		return d, told
	}
	d, told := run()
	for range 5 {
		again, toldAgain := run()
		if !reflect.DeepEqual(told, toldAgain) || !reflect.DeepEqual(d, again) {
			t.Fatal("the same calls have not done the same")
		}
	}
}

// P1: no disk leads Open astray, whatever stands where the log writes.
func TestForeignDisk(t *testing.T) {
	for first := range 256 {
		for _, rest := range []string{"", "\x00", "\xff", "\x01", "\x00\x09\x00\x0a"} {
			d := blocks.New(100)
			for at := range 100 {
				d.Write(at, strings.Repeat("junk", 64))
			}
			d.Write(recordAt, string([]byte{byte(first)})+strings.Repeat(rest, 256/max(1, len(rest))))
			l := open(t, d)
			mustPut(t, l, "x", 0, 9)
			mustCommit(t, l)
			l = open(t, d)
			expect(t, l, 0, "x")
			expect(t, l, 9, "x")
		}
	}
}
