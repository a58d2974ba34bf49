package gauze

import (
	"reflect"
	"testing"

	"gauze/api"
	"gauze/blocks"
)

// refusals: the errors that come ahead of ErrDisk are answered as ever, over the layer of the scenes.
func refusals(t *testing.T, f *FS) {
	t.Helper()
	do(t, f, api.ErrArg, write("", ""), write("a/", ""), fill("f", "x", api.MaxData+1), mkdir("A"), chmod("f", -1), chmod("none", 512),
		remove("/"), rename("f", ""), rename("", "f"))
	do(t, f, api.ErrNone, write("none/n", ""), mkdir("none/n"), chmod("none", 0), remove("none"), rename("none", "n"), rename("d/e/y", "none/n"))
	do(t, f, api.ErrKind, write("d", ""), write("d/e/y/n", ""), mkdir("d/e/y/n"), rename("d", "n"), rename("d/e/y", "d"))
	do(t, f, api.ErrThere, mkdir("d"), mkdir("d/e/y"))
	do(t, f, api.ErrBusy, remove("d"), remove("d/e"))
}

// changes are calls that change something over the tree, whatever the layer of the scenes.
func changes() []call {
	return calls(
		write("z", ""), write("d/e/y", "n"), mkdir("z"), mkdir("d/e/z"), chmod("d/e/y", 1), chmod("d/e", 1),
		remove("d/e/y"), rename("d/e/y", "z"), rename("d/e/y", "d/e/z"),
	)
}

// behind: what calls answer behind one that answered ErrDisk, and what they tell: all as it was ahead of that.
func behind(t *testing.T, f *FS, was []api.Item) {
	t.Helper()
	for range 2 {
		do(t, f, api.ErrDisk, changes()...)
		refusals(t, f)
		tells(t, f, below(), was...)
		refuseStat(t, f, "", api.ErrArg)
		refuseStat(t, f, "none", api.ErrNone)
		refuseList(t, f, "a/", api.ErrArg)
		refuseList(t, f, "none", api.ErrNone)
		if e := f.Rename("d/e/y", "d/e/y"); e != api.OK && e != api.ErrDisk {
			t.Errorf("Rename onto itself = %d", e)
		}
	}
}

// standing is the scenes whose calls leave what refusals needs.
func standing(t *testing.T) []scene {
	var some []scene
	for _, s := range append(scenes(t), greatScenes(t)...) {
		if itemsOf(s.was)["d/e"].Kind != api.White && s.call != remove("d") {
			some = append(some, s)
		}
	}
	return some
}

// P15: behind a call that failed nothing is done till Open, which finds all of it or nothing.
func TestBehindAFailure(t *testing.T) {
	for _, s := range standing(t) {
		failed := false
		for fail := range s.steps(t) {
			d, f, e := s.cut(t, fails(fail))
			if e == api.OK {
				continue
			}
			failed = true
			was := d.Copy()
			do(t, f, api.ErrDisk, s.call)
			behind(t, f, s.was)
			if !reflect.DeepEqual(d, was) {
				t.Errorf("call %d fails: what came behind has changed the disk", fail)
			}
			l := found(t, "", d, s.was, s.done)
			f = open(t, d, below())
			refusals(t, f)
			do(t, f, api.OK, write("z", "on"))
			has(t, d, f, below(), append(l, newFile("z", "on"))...)
		}
		if !failed {
			t.Errorf("%s has not failed", brief(s.call))
		}
	}
}

// P15: on a dead disk all is told, and nothing is done; nor behind that till Open, even if the disk is in order again.
func TestDeadDisk(t *testing.T) {
	for _, s := range standing(t) {
		d, f, e := s.cut(t, dies(0))
		if e != api.ErrDisk {
			t.Fatalf("%s on a dead disk = %d", brief(s.call), e)
		}
		behind(t, f, s.was)
		d.Crash(nil)
		was := d.Copy()
		behind(t, f, s.was)
		if !reflect.DeepEqual(d, was) {
			t.Error("what came behind a call on a dead disk has changed the disk")
		}
		f = open(t, d, below())
		tells(t, f, below(), s.was...)
		do(t, f, api.OK, s.call)
		has(t, d, f, below(), s.done...)
	}
}

// P11, P15: what was only told on a dead disk, or refused, has done no harm, when the disk is in order again.
func TestToldOnADeadDisk(t *testing.T) {
	want := list(newFile("n", "1"))
	d, f := with(t, below(), write("n", "1"))
	d.Die(0)
	tells(t, f, below(), want...)
	refusals(t, f)
	if d.Failed() != 0 {
		t.Error("the disk was asked for a change")
	}
	d.Crash(nil)
	do(t, f, api.OK, write("n", "2"))
	has(t, d, f, below(), newFile("n", "2"))
}

// P12, P15: ErrFull comes ahead of ErrDisk, on a dead disk and behind a call that failed.
func TestFullAheadOfErrDisk(t *testing.T) {
	lower := numbered(api.MaxItems)
	for _, trouble := range []func(*blocks.Disk){dies(0), fails(0)} {
		d, f := with(t, lower, write("n00", "1"))
		trouble(d)
		do(t, f, api.ErrFull, write("z", ""), mkdir("z"))
		do(t, f, api.ErrDisk, write("n00", "2"))
		do(t, f, api.ErrFull, write("z", ""), mkdir("z"))
		do(t, f, api.ErrDisk, remove("n00"), rename("n00", "z"), chmod("n01", 1))
		tells(t, f, lower, file("n00", "1"))
	}
}

// P12, P15: what is told, what is refused, and a Rename onto itself ask for no change of the disk.
func TestNothingAskedOfTheDisk(t *testing.T) {
	d, f := with(t, below(), write("n", "1"))
	d.Fail(0)
	was := d.Copy()
	refusals(t, f)
	tells(t, f, below(), newFile("n", "1"))
	do(t, f, api.OK, rename("n", "n"), rename("f", "f"))
	if !reflect.DeepEqual(d, was) {
		t.Error("the disk has changed")
	}
	do(t, f, api.ErrDisk, write("n", "2"))
	has(t, d, open(t, d, below()), below(), newFile("n", "1"))
}

// P12, P15: a call that leaves the layer as it was is OK; where the disk is in trouble, it is OK, or ErrDisk.
func TestSameAgainOnTheDisk(t *testing.T) {
	same := calls(write("n", "1"), chmod("n", api.NewFile), chmod("d", 7), rename("n", "n"))
	d, f := with(t, below(), write("n", "1"), chmod("d", 7))
	do(t, f, api.OK, same...)
	has(t, d, f, below(), moded(dir("d"), 7), newFile("n", "1"))
	for _, trouble := range []func(*blocks.Disk){dies(0), fails(0), dies(3), fails(3)} {
		for _, c := range same {
			d, f := with(t, below(), write("n", "1"), chmod("d", 7))
			trouble(d)
			if e := c.do(f); e != api.OK && e != api.ErrDisk {
				t.Errorf("%s = %d", brief(c), e)
			}
			tells(t, f, below(), moded(dir("d"), 7), newFile("n", "1"))
			d.Crash(nil)
			tells(t, open(t, d, below()), below(), moded(dir("d"), 7), newFile("n", "1"))
		}
	}
}

// P15: behind a call that failed, and may be done, another that seems to leave all as it was is not OK: Open may find otherwise.
func TestSameBehindAFailure(t *testing.T) {
	for fail := range 12 {
		d, f := with(t, below(), write("n", "1"))
		d.Fail(fail)
		if f.Write("n", "2") == api.OK {
			continue
		}
		if e := f.Write("n", "1"); e == api.OK {
			d.Crash(nil)
			tells(t, open(t, d, below()), below(), newFile("n", "1"))
		}
	}
}
