package base

import (
	"reflect"
	"strings"
	"testing"

	"gauze/api"
	"gauze/blocks"
)

// refuseAll: Nodes, Read and Do of something answer this error, but ErrArg as ever.
func refuseAll(t *testing.T, b *Base, want api.Errno) {
	t.Helper()
	if list, e := b.Nodes(); len(list) != 0 || e != want {
		t.Errorf("Nodes = %s, %d, want the error %d", brief(list), e, want)
	}
	for _, path := range []string{"a", "c", "none"} {
		refuse(t, b, path, want)
	}
	do(t, b, want, put(file("new", "")))
	do(t, b, want, take("c"))
	refuseWrong(t, b)
}

// refuseWrong: what is wrong is refused, as ever.
func refuseWrong(t *testing.T, b *Base) {
	t.Helper()
	refuse(t, b, "", api.ErrArg)
	refuse(t, b, "a/", api.ErrArg)
	do(t, b, api.ErrArg, put(file("", "")))
	do(t, b, api.ErrArg, take("a//b"))
	do(t, b, api.ErrArg, put(file("c", strings.Repeat("x", api.MaxData+1))))
	do(t, b, api.ErrArg, make([]api.Deed, api.MaxDeeds+1))
}

// P9: on a dead disk nothing is told and nothing done, not even nothing.
func TestDeadDisk(t *testing.T) {
	d := with(t, dir("a"), file("c", "1"))
	b := open(t, d)
	d.Die(0)
	refuseAll(t, b, api.ErrDisk)
	do(t, b, api.ErrDisk, nil)
	d.Crash(nil)
	hasSure(t, d, open(t, d), dir("a"), file("c", "1"))
}

// P9: on a dead disk an error of a deed is answered, or ErrDisk.
func TestErrorsOnADeadDisk(t *testing.T) {
	for _, deeds := range [][]api.Deed{take("none"), put(file("none/a", "")), put(dir("c")), put(file("c/a", ""))} {
		d := with(t, dir("a"), file("c", "1"))
		b := open(t, d)
		own := b.Do(deeds)
		d.Die(0)
		if e := b.Do(deeds); e != own && e != api.ErrDisk || own == api.OK {
			t.Errorf("Do(%s) on a dead disk = %d, else %d", brief(deeds), e, own)
		}
	}
}

// P9: what was only read on a dead disk has done no harm, when the disk is in order again.
func TestReadOnADeadDisk(t *testing.T) {
	d := with(t, dir("a"), file("c", "1"))
	b := open(t, d)
	d.Die(0)
	if list, e := b.Nodes(); len(list) != 0 || e != api.ErrDisk {
		t.Errorf("Nodes = %s, %d", brief(list), e)
	}
	refuse(t, b, "c", api.ErrDisk)
	do(t, b, api.ErrArg, put(file("", "")))
	d.Crash(nil)
	has(t, b, dir("a"), file("c", "1"))
	do(t, b, api.OK, put(file("c", "2")))
	hasSure(t, d, b, dir("a"), file("c", "2"))
}

// P9: behind a Do on a dead disk nothing is done till Open, even if the disk is in order again.
func TestBehindADeadDisk(t *testing.T) {
	for _, deeds := range [][]api.Deed{put(file("c", "2")), take("a"), nil} {
		d := with(t, dir("a"), file("c", "1"))
		b := open(t, d)
		d.Die(0)
		do(t, b, api.ErrDisk, deeds)
		d.Crash(nil)
		was := d.Copy()
		do(t, b, api.ErrDisk, put(file("c", "3")))
		do(t, b, api.ErrDisk, take("c"))
		refuseWrong(t, b)
		if list, e := b.Nodes(); e != api.ErrDisk && (e != api.OK || !isOneOf(list, [][]api.Node{{dir("a"), file("c", "1")}})) {
			t.Errorf("Nodes = %s, %d", brief(list), e)
		}
		if !reflect.DeepEqual(d, was) {
			t.Error("a Do behind one that failed has changed the disk")
		}
		b = open(t, d)
		do(t, b, api.OK, put(file("c", "4")))
		hasSure(t, d, b, dir("a"), file("c", "4"))
	}
}

// P9: behind a Do that failed nothing is done till Open, which tells all of it or nothing.
func TestBehindAFailure(t *testing.T) {
	for _, s := range append(small(t), greater(t)...) {
		failed := false
		for fail := range s.steps() {
			d, b, e := s.cut(t, func(d *blocks.Disk) { d.Fail(fail) })
			if e == api.OK {
				continue
			}
			failed = true
			was := d.Copy()
			for range 2 {
				s.behind(t, b)
			}
			if !reflect.DeepEqual(d, was) {
				t.Errorf("call %d fails: what came behind has changed the disk", fail)
			}
			list := found(t, "", d, s.was, s.done)
			b = open(t, d)
			do(t, b, api.OK, put(file("z", "on")))
			hasSure(t, d, b, append(list, file("z", "on"))...)
		}
		if !failed {
			t.Error("no Do has failed")
		}
	}
}

// behind: a Do, Nodes and Read behind a Do that failed answer what they may.
func (s scene) behind(t *testing.T, b *Base) {
	t.Helper()
	do(t, b, api.ErrDisk, put(file("z", "")))
	do(t, b, api.ErrDisk, s.deeds)
	if e := b.Do(take("none")); e != api.ErrNone && e != api.ErrDisk {
		t.Errorf("Do of what can't be done, behind one that failed = %d", e)
	}
	if e := b.Do(nil); e != api.OK && e != api.ErrDisk {
		t.Errorf("Do of nothing, behind one that failed = %d", e)
	}
	list, e := b.Nodes()
	if !(e == api.OK && isOneOf(list, [][]api.Node{s.was})) && !(e == api.ErrDisk && len(list) == 0) {
		t.Errorf("Nodes, behind a Do that failed = %s, %d", brief(list), e)
	}
	n, e := b.Read("c")
	if !(e == api.OK && n == file("c", "1")) && !(e == api.ErrDisk && n == api.Node{}) {
		t.Errorf("Read, behind a Do that failed = %s, %d", brief(n), e)
	}
	refuseWrong(t, b)
}

// P8, P9: a Do that is refused, or that is of nothing, asks nothing of the disk, and what is read never does.
func TestRefusedDoLeavesTheDisk(t *testing.T) {
	d := with(t, dir("a"), file("c", "1"))
	b := open(t, d)
	d.Fail(0)
	was := d.Copy()
	do(t, b, api.OK, nil)
	do(t, b, api.ErrArg, put(file("", "")))
	do(t, b, api.ErrNone, all(put(file("c", "2"), full("n", "n")), take("none")))
	do(t, b, api.ErrKind, all(take("a"), put(dir("c"))))
	has(t, b, dir("a"), file("c", "1"))
	refuse(t, b, "n", api.ErrNone)
	if !reflect.DeepEqual(d, was) {
		t.Error("the disk has changed")
	}
	do(t, b, api.ErrDisk, put(file("c", "2")))
	hasSure(t, d, open(t, d), dir("a"), file("c", "1"))
}

// P8: what a refused Do has put is let go: the next one does not carry it.
func TestRefusedDoLeavesNothingBehind(t *testing.T) {
	d := with(t, dir("a"), file("c", "1"))
	b := open(t, d)
	for range 20 {
		do(t, b, api.ErrNone, all(put(fulls("", api.MaxDeeds-2, "x")...), take("a", "none")))
	}
	do(t, b, api.OK, nil)
	hasSure(t, d, b, dir("a"), file("c", "1"))
	do(t, b, api.OK, put(file("d", "2")))
	hasSure(t, d, b, dir("a"), file("c", "1"), file("d", "2"))
}
