package base

import (
	"fmt"
	"math/rand"
	"slices"
	"testing"

	"gauze/api"
	"gauze/blocks"
)

const farPast = 1 << 40 // more changing calls than any test makes

// masks are all ways to keep some of up to n writes.
func masks(n int) [][]int {
	var all [][]int
	for bits := range 1 << n {
		keep := make([]int, n)
		for i := range keep {
			keep[i] = bits >> i & 1
		}
		all = append(all, keep)
	}
	return all
}

// scene is a disk with nodes on it, and deeds to come.
type scene struct {
	disk  *blocks.Disk
	was   []api.Node
	deeds []api.Deed
	done  []api.Node
	size  int // how many blocks the deeds change
}

func newScene(t *testing.T, deeds []api.Deed, size int, done ...api.Node) scene {
	was := []api.Node{dir("a"), full("a/b", "o"), file("c", "1")}
	return scene{disk: with(t, was...), was: was, deeds: deeds, done: done, size: size}
}

// small are scenes of few blocks.
func small(t *testing.T) []scene {
	return []scene{
		newScene(t, put(full("n", "n")), 2, dir("a"), full("a/b", "o"), file("c", "1"), full("n", "n")),
		newScene(t, put(file("a/b", "n")), 2, dir("a"), file("a/b", "n"), file("c", "1")),
		newScene(t, take("a"), 2, file("c", "1")),
		newScene(t, all(take("a/b"), put(full("c", "2"))), 3, dir("a"), full("c", "2")),
	}
}

// greater are scenes of some more.
func greater(t *testing.T) []scene {
	return []scene{
		newScene(t, all(take("c"), put(dir("c"), file("c/d", "2"))), 4, dir("a"), full("a/b", "o"), dir("c"), file("c/d", "2")),
		newScene(t, all(take("a"), put(dir("a"), full("n", "n"), file("a/n", "")), take("c")), 7, dir("a"), file("a/n", ""), full("n", "n")),
	}
}

// steps is how many changing calls are tried: more than Do or Open makes in the scene.
func (s scene) steps() int { return 2*s.size + 8 }

// fits: where calls of the disk have failed, more than there were, the answer is ErrDisk, and else only if the disk is dead.
func fits(e api.Errno, d *blocks.Disk, was int) bool {
	return e == api.ErrDisk && (d.Failed() > was || d.Dead()) || e == api.OK && d.Failed() == was
}

// cut does the scene's deeds on a copy of the disk, with trouble ahead.
func (s scene) cut(t *testing.T, trouble func(*blocks.Disk)) (*blocks.Disk, *Base, api.Errno) {
	t.Helper()
	d := s.disk.Copy()
	b := open(t, d)
	was := d.Failed()
	trouble(d)
	e := b.Do(s.deeds)
	if !fits(e, d, was) {
		t.Fatalf("%d calls of the disk have failed in Do: %d", d.Failed()-was, e)
	}
	return d, b, e
}

// outcomes is what Open may find behind the deeds.
func (s scene) outcomes(e api.Errno) [][]api.Node {
	if e == api.OK {
		return [][]api.Node{s.done}
	}
	return [][]api.Node{s.was, s.done}
}

func isOneOf(list []api.Node, may [][]api.Node) bool {
	return slices.ContainsFunc(may, func(one []api.Node) bool { return slices.Equal(one, list) })
}

// found opens the base, and holds what it has against what it may have.
func found(t *testing.T, where string, d *blocks.Disk, may ...[]api.Node) []api.Node {
	t.Helper()
	b, e := Open(d)
	if e != api.OK {
		t.Fatalf("%s: Open = %d", where, e)
	}
	list, e := b.Nodes()
	if e != api.OK || !isOneOf(list, may) {
		t.Fatalf("%s: Open has found %s, %d", where, brief(list), e)
	}
	return list
}

// The scenes do what they should when nothing goes wrong, and change as many blocks as they say, so that the tests below try each call.
func TestScenes(t *testing.T) {
	for _, s := range append(small(t), greater(t)...) {
		d, b, e := s.cut(t, func(d *blocks.Disk) { d.Die(farPast) })
		if e != api.OK {
			t.Fatalf("Do = %d", e)
		}
		hasSure(t, d, b, s.done...)
		for die, want := range map[int]bool{s.size: true, s.steps() - 1: false} {
			if _, _, e := s.cut(t, func(d *blocks.Disk) { d.Die(die) }); (e == api.ErrDisk) != want {
				t.Errorf("%s, dead behind %d = %d", brief(s.deeds), die, e)
			}
		}
	}
}

// P8, P9: the disk dies at each call of Do, and a crash leaves any of what was not flushed.
func TestDoCutOff(t *testing.T) {
	for _, s := range append(small(t), greater(t)...) {
		for die := range s.steps() {
			d, b, e := s.cut(t, func(d *blocks.Disk) { d.Die(die) })
			if d.Dead() {
				refuseAll(t, b, api.ErrDisk)
			}
			for _, keep := range masks(s.size) {
				c := d.Copy()
				c.Crash(keep)
				found(t, fmt.Sprint(die, keep), c, s.outcomes(e)...)
			}
		}
	}
}

// P7, P9: in Open that follows the disk dies too, at each call; what Open has found with OK stays, whatever is kept.
func TestOpenCutOff(t *testing.T) {
	for _, s := range small(t) {
		for die := range s.steps() {
			d, _, e := s.cut(t, func(d *blocks.Disk) { d.Die(die) })
			for _, keep := range masks(s.size) {
				c := d.Copy()
				c.Crash(keep)
				s.openCutOff(t, fmt.Sprint(die, keep), c, s.outcomes(e))
			}
		}
	}
}

func (s scene) openCutOff(t *testing.T, where string, d *blocks.Disk, may [][]api.Node) {
	t.Helper()
	for die := range s.steps() {
		c := d.Copy()
		c.Die(die)
		b, e := Open(c)
		if !fits(e, c, d.Failed()) || b == nil != (e != api.OK) || e == api.OK && c.Dead() {
			t.Fatalf("%s: Open, dead behind %d = %v, %d", where, die, b, e)
		}
		now := may
		if e == api.OK {
			list, _ := b.Nodes()
			now = [][]api.Node{list}
		}
		for _, keep := range masks(s.size) {
			again := c.Copy()
			again.Crash(keep)
			found(t, fmt.Sprint(where, die, keep), again, now...)
		}
	}
}

// P7, P9: each call of Do fails, without a crash, and each of Open behind it. What Open has found at last stays behind a crash.
func TestDoFails(t *testing.T) {
	for _, s := range append(small(t), greater(t)...) {
		for fail := range s.steps() {
			d, _, e := s.cut(t, func(d *blocks.Disk) { d.Fail(fail) })
			may := s.outcomes(e)
			for failOpen := range s.steps() {
				c := d.Copy()
				c.Fail(failOpen)
				b, e := Open(c)
				if !fits(e, c, d.Failed()) || b == nil != (e != api.OK) {
					t.Fatalf("Open, where call %d fails = %v, %d", failOpen, b, e)
				}
				c.Fail(farPast)
				where := fmt.Sprint(fail, failOpen)
				list := found(t, where, c, may...)
				for _, keep := range masks(min(2, s.size)) {
					again := c.Copy()
					again.Crash(keep)
					found(t, where+" crash", again, list)
				}
			}
		}
	}
}

// P9: behind a Do that failed, and behind Open, another Do is done as a whole or not at all, wherever it is cut off.
func TestNextDoCutOff(t *testing.T) {
	for _, s := range small(t) {
		for fail := range s.steps() {
			d, _, _ := s.cut(t, func(d *blocks.Disk) { d.Fail(fail) })
			d.Fail(farPast)
			list := found(t, "", d.Copy(), s.was, s.done)
			next := scene{disk: d, was: list, deeds: put(full("z", "z")), done: append(slices.Clone(list), full("z", "z")), size: 2}
			for die := 1; die < next.steps(); die++ {
				c, _, e := next.cut(t, func(d *blocks.Disk) { d.Die(die) })
				for _, keep := range masks(next.size) {
					again := c.Copy()
					again.Crash(keep)
					found(t, fmt.Sprint(fail, die, keep), again, next.outcomes(e)...)
				}
			}
		}
	}
}

// greatest is a Do that changes as much as one may.
func greatest(t *testing.T) scene {
	was := append([]api.Node{dir("d")}, fulls("d/", api.MaxNodes-1, "x")...)
	now := append([]api.Node{dir("d")}, fulls("d/", api.MaxDeeds-2, "y")...)
	return scene{disk: with(t, was...), was: was, deeds: all(take("d"), put(now...)), done: now, size: api.MaxNodes + api.MaxDeeds - 1}
}

// lots are ways to keep writes of the greatest Do: none, all, and some by lot.
func lots(r *rand.Rand) [][]int {
	list := [][]int{nil, slices.Repeat([]int{1}, api.MaxPuts+1), nil}
	for range api.MaxPuts + 1 {
		list[2] = append(list[2], r.Intn(2))
	}
	return list
}

// P8, P9: the greatest Do is cut off at each call, by a disk that dies, and by one that fails.
func TestGreatestDoCutOff(t *testing.T) {
	r := rand.New(rand.NewSource(1))
	s := greatest(t)
	for step := range s.steps() {
		d, _, e := s.cut(t, func(d *blocks.Disk) { d.Die(step) })
		for _, keep := range lots(r) {
			c := d.Copy()
			c.Crash(keep)
			found(t, fmt.Sprint(step, keep), c, s.outcomes(e)...)
		}
		d, _, e = s.cut(t, func(d *blocks.Disk) { d.Fail(step) })
		d.Fail(farPast)
		found(t, fmt.Sprint(step), d, s.outcomes(e)...)
	}
}

// P7, P9: the greatest Do is cut off, and Open behind it at each call.
func TestGreatestOpenCutOff(t *testing.T) {
	r := rand.New(rand.NewSource(2))
	s := greatest(t)
	d, _, _ := s.cut(t, func(d *blocks.Disk) { d.Die(s.size + 4) })
	d.Crash(nil)
	may := [][]api.Node{found(t, "", d.Copy(), s.was, s.done)}
	for step := range s.size + 6 {
		c := d.Copy()
		c.Die(step)
		if b, e := Open(c); !fits(e, c, d.Failed()) || b == nil != (e != api.OK) {
			t.Fatalf("Open, dead behind %d = %v, %d", step, b, e)
		}
		for _, keep := range lots(r) {
			again := c.Copy()
			again.Crash(keep)
			found(t, fmt.Sprint(step, keep), again, may...)
		}
	}
}
