package gauze

import (
	"fmt"
	"math/rand"
	"slices"
	"testing"

	"gauze/api"
	"gauze/blocks"
)

const farPast = 1 << 40 // more changing calls than any test makes

// mayAnswer: where calls of the disk have failed, more than there were, the answer is ErrDisk, and else only if the disk is dead.
func mayAnswer(e api.Errno, d *blocks.Disk, was int) bool {
	return e == api.ErrDisk && (d.Failed() > was || d.Dead()) || e == api.OK && d.Failed() == was
}

// scene is a disk with a layer on it, and a call to come that changes so many of its blocks.
type scene struct {
	disk *blocks.Disk
	was  []api.Item
	call call
	done []api.Item
	size int
}

func newScene(t *testing.T, c call, size int, ahead ...call) scene {
	t.Helper()
	d, f := with(t, below(), ahead...)
	s := scene{disk: d.Copy(), was: f.Layer(), call: c, size: size}
	do(t, f, api.OK, c)
	s.done = f.Layer()
	return s
}

// scenes are one or more for each of the calls.
func scenes(t *testing.T) []scene {
	return []scene{
		newScene(t, fill("n", "n", api.MaxData), 2),
		newScene(t, write("f", "n"), 2, fill("f", "o", api.MaxData)),
		newScene(t, write("f", "n"), 2, remove("f")),
		newScene(t, write("g/n", "n"), 4),
		newScene(t, mkdir("n"), 2, write("f", "n")),
		newScene(t, mkdir("g"), 2, remove("g")),
		newScene(t, chmod("f", 0), 2),
		newScene(t, chmod("d", 7), 2, write("d/n", "")),
		newScene(t, remove("f"), 2, write("d/n", "")),
		newScene(t, remove("n"), 1, write("n", "")),
		newScene(t, remove("d/a"), 4),
		newScene(t, remove("d/e/i"), 3, remove("d/e/i/x")),
		newScene(t, rename("n", "m"), 3, write("n", "1")),
		newScene(t, rename("f", "n"), 4),
		newScene(t, rename("f", "d/a"), 4, remove("d/a")),
	}
}

// greatScenes change many blocks.
func greatScenes(t *testing.T) []scene {
	return []scene{
		newScene(t, rename("d/e/i/x", "g/n"), 12),
		newScene(t, remove("d"), 5, remove("d/e/i/x"), remove("d/e/i"), remove("d/e/y"), remove("d/a"), chmod("d/e", 1), remove("d/e"), write("d/b", ""), remove("d/b")),
		newScene(t, write("d/e/i/x", "n"), 8),
	}
}

// keeps are ways to keep some of the writes: all ways, or, where they are too many, none, all, and some by lot.
func (s scene) keeps(r *rand.Rand) [][]int {
	if s.size > 4 {
		lots := [][]int{nil, slices.Repeat([]int{1}, 2*s.size)}
		for range 8 {
			keep := make([]int, s.size)
			for i := range keep {
				keep[i] = r.Intn(2)
			}
			lots = append(lots, keep)
		}
		return lots
	}
	var all [][]int
	for bits := range 1 << s.size {
		keep := make([]int, s.size)
		for i := range keep {
			keep[i] = bits >> i & 1
		}
		all = append(all, keep)
	}
	return all
}

// cut does the scene's call on a copy of the disk, with trouble ahead.
func (s scene) cut(t *testing.T, trouble func(*blocks.Disk)) (*blocks.Disk, *FS, api.Errno) {
	t.Helper()
	d := s.disk.Copy()
	f := open(t, d, below())
	was := d.Failed()
	trouble(d)
	e := s.call.do(f)
	if !mayAnswer(e, d, was) {
		t.Fatalf("%d calls of the disk have failed in %s: %d", d.Failed()-was, brief(s.call), e)
	}
	return d, f, e
}

func dies(behind int) func(*blocks.Disk)  { return func(d *blocks.Disk) { d.Die(behind) } }
func fails(behind int) func(*blocks.Disk) { return func(d *blocks.Disk) { d.Fail(behind) } }

// steps is how many calls of the disk there are to try: the last is one behind those that the scene's call makes.
func (s scene) steps(t *testing.T) int {
	for step := range 1000 {
		if d, _, e := s.cut(t, dies(step)); e == api.OK && !d.Dead() {
			return step + 1
		}
	}
	t.Fatalf("%s never comes to its end", brief(s.call))
	return 0
}

// outcomes is what Open may find behind the call.
func (s scene) outcomes(e api.Errno) [][]api.Item {
	if e == api.OK {
		return [][]api.Item{s.done}
	}
	return [][]api.Item{s.was, s.done}
}

// found opens the file system, and holds the layer against those that it may be.
func found(t *testing.T, where string, d *blocks.Disk, may ...[]api.Item) []api.Item {
	t.Helper()
	f, e := Open(d, below())
	if e != api.OK {
		t.Fatalf("%s: Open = %d", where, e)
	}
	l := f.Layer()
	if !slices.ContainsFunc(may, func(one []api.Item) bool { return slices.Equal(one, l) }) {
		t.Fatalf("%s: Open has found %s", where, brief(l))
	}
	return l
}

// The scenes change something, and as many blocks as they say (each is written twice, with a few calls beside), so that the tests below keep any of the writes.
func TestScenes(t *testing.T) {
	for _, s := range append(scenes(t), greatScenes(t)...) {
		if slices.Equal(s.was, s.done) {
			t.Errorf("%s changes nothing", brief(s.call))
		}
		if got := s.steps(t); got <= 2*s.size || got > 2*s.size+8 {
			t.Errorf("%s makes %d calls of the disk, and changes %d blocks", brief(s.call), got, s.size)
		}
	}
}

// P15: the disk dies at each call that a change makes, and a crash leaves any of what was not flushed.
func TestChangeCutOff(t *testing.T) {
	r := rand.New(rand.NewSource(1))
	for _, s := range append(scenes(t), greatScenes(t)...) {
		for die := range s.steps(t) {
			d, f, e := s.cut(t, dies(die))
			tells(t, f, below(), s.outcomes(e)[0]...)
			for _, keep := range s.keeps(r) {
				c := d.Copy()
				c.Crash(keep)
				found(t, fmt.Sprint(s.call, die, keep), c, s.outcomes(e)...)
			}
		}
	}
}

// P10, P15: in Open that follows the disk dies too, at each call; what Open has found with OK stays, whatever is kept.
func TestOpenCutOff(t *testing.T) {
	r := rand.New(rand.NewSource(2))
	for _, s := range scenes(t) {
		if s.size > 2 {
			continue
		}
		steps := s.steps(t)
		for die := range steps {
			d, _, e := s.cut(t, dies(die))
			for _, keep := range s.keeps(r) {
				c := d.Copy()
				c.Crash(keep)
				s.openCutOff(t, fmt.Sprint(s.call, die, keep), c, steps, s.outcomes(e))
			}
		}
	}
}

func (s scene) openCutOff(t *testing.T, where string, d *blocks.Disk, steps int, may [][]api.Item) {
	t.Helper()
	r := rand.New(rand.NewSource(3))
	for die := range steps {
		c := d.Copy()
		c.Die(die)
		f, e := Open(c, below())
		if !mayAnswer(e, c, d.Failed()) || f == nil != (e != api.OK) || e == api.OK && c.Dead() {
			t.Fatalf("%s: Open, dead behind %d = %v, %d", where, die, f, e)
		}
		now := may
		if e == api.OK {
			now = [][]api.Item{f.Layer()}
		}
		for _, keep := range s.keeps(r) {
			again := c.Copy()
			again.Crash(keep)
			found(t, fmt.Sprint(where, die, keep), again, now...)
		}
	}
}

// P10, P15: a greater change is cut off about where it gets sure, or behind that, and Open behind it at each call.
func TestGreatOpenCutOff(t *testing.T) {
	for _, s := range append(scenes(t), greatScenes(t)...) {
		if s.size <= 2 {
			continue
		}
		steps := s.steps(t)
		for die := steps/2 - 2; die < steps; die++ {
			d, _, e := s.cut(t, dies(die))
			d.Crash(nil)
			s.openCutOff(t, fmt.Sprint(s.call, die), d, steps, s.outcomes(e))
		}
	}
}

// P10, P15: each call of the disk fails, without a crash, and each in Open behind it. What Open has found at last stays behind a crash.
func TestChangeFails(t *testing.T) {
	for _, s := range append(scenes(t), greatScenes(t)...) {
		steps := s.steps(t)
		for fail := range steps {
			d, f, e := s.cut(t, fails(fail))
			tells(t, f, below(), s.outcomes(e)[0]...)
			for failOpen := range steps {
				c := d.Copy()
				c.Fail(failOpen)
				if f, again := Open(c, below()); !mayAnswer(again, c, d.Failed()) || f == nil != (again != api.OK) {
					t.Fatalf("Open, where call %d fails = %v, %d", failOpen, f, again)
				}
				c.Fail(farPast)
				where := fmt.Sprint(s.call, fail, failOpen)
				l := found(t, where, c, s.outcomes(e)...)
				c.Crash([]int{1, 0, 1})
				found(t, where+" crash", c, l)
			}
		}
	}
}

// P15: behind a call that failed, and behind Open, the next is done as a whole or not at all, wherever it is cut off.
func TestNextChangeCutOff(t *testing.T) {
	r := rand.New(rand.NewSource(4))
	for _, s := range scenes(t) {
		for fail := range s.steps(t) {
			d, _, _ := s.cut(t, fails(fail))
			d.Fail(farPast)
			next := scene{disk: d, was: found(t, "", d.Copy(), s.was, s.done), call: fill("z", "z", api.MaxData), size: 2}
			next.done = append(slices.Clone(next.was), newFile("z", next.call.data))
			for die := 1; die < 12; die++ {
				c, _, e := next.cut(t, dies(die))
				for _, keep := range next.keeps(r) {
					again := c.Copy()
					again.Crash(keep)
					found(t, fmt.Sprint(s.call, fail, die, keep), again, next.outcomes(e)...)
				}
			}
		}
	}
}
