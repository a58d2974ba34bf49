package wal

import (
	"fmt"
	"math/rand"
	"slices"
	"testing"

	"gauze/api"
	"gauze/blocks"
)

// content is all blocks of a log.
func content(t *testing.T, l *Log) []string {
	t.Helper()
	var list []string
	for at := range l.Blocks() {
		data, e := l.Get(at)
		if e != api.OK {
			t.Fatalf("Get(%d) = %d", at, e)
		}
		list = append(list, data)
	}
	return list
}

// with is a content in which some blocks have this.
func with(was []string, data string, list []int) []string {
	now := slices.Clone(was)
	for _, at := range list {
		now[at] = filled(data)
	}
	return now
}

// masks are all ways to keep some of up to n writes.
func masks(n int) [][]int {
	var all [][]int
	for bits := range 1 << n {
		keep := make([]int, n)
		for i := range keep {
			keep[i] = bits >> i & 1
		}
		all = append(all, keep)
	}
	return all
}

// scene is a disk with something sure on it, and a transaction to come.
type scene struct {
	disk *blocks.Disk
	was  []string
	puts []int
}

// newScene has two Commits behind it, the last of which has filled as much of the log as the one to come, or more.
func newScene(t *testing.T, puts ...int) scene {
	d := blocks.New(api.LogSize + 8)
	l := open(t, d)
	mustPut(t, l, "a", 0, 1, 2, 3, 4, 5)
	mustCommit(t, l)
	mustPut(t, l, "b", 1, 3, 5, 6)
	mustCommit(t, l)
	return scene{disk: d, was: content(t, l), puts: puts}
}

func scenes(t *testing.T) []scene {
	return []scene{newScene(t, 7), newScene(t, 1), newScene(t, 3, 2), newScene(t, 6, 0, 7)}
}

// cut begins the scene's transaction on a copy of the disk and calls Commit, with trouble ahead.
func (s scene) cut(t *testing.T, data string, trouble func(*blocks.Disk)) (*blocks.Disk, api.Errno) {
	t.Helper()
	d := s.disk.Copy()
	l := open(t, d)
	mustPut(t, l, data, s.puts...)
	was := d.Failed()
	trouble(d)
	e := l.Commit()
	if !fits(e, d, was) {
		t.Fatalf("%d calls of the disk have failed in Commit: %d", d.Failed()-was, e)
	}
	return d, e
}

// fits: where calls of the disk have failed, more than there were, the answer is ErrDisk, and else only if the disk is dead.
func fits(e api.Errno, d *blocks.Disk, was int) bool {
	return e == api.ErrDisk && (d.Failed() > was || d.Dead()) || e == api.OK && d.Failed() == was
}

// found opens the log, and holds what it has against what it may have.
func found(t *testing.T, where string, d *blocks.Disk, may ...[]string) []string {
	t.Helper()
	l, e := Open(d)
	if e != api.OK {
		t.Fatalf("%s: Open = %d", where, e)
	}
	has := content(t, l)
	if !slices.ContainsFunc(may, func(one []string) bool { return slices.Equal(one, has) }) {
		t.Fatalf("%s: Open has found %.3q", where, has)
	}
	return has
}

// outcomes is what Open may find behind a Commit.
func (s scene) outcomes(e api.Errno, data string) [][]string {
	done := with(s.was, data, s.puts)
	if e == api.OK {
		return [][]string{done}
	}
	return [][]string{s.was, done}
}

// steps is how many changing calls are tried: more than Commit or Open makes in a scene.
const steps = 16

// P6: the disk dies at each call of Commit, and a crash leaves any of what was not flushed.
func TestCommitCutOff(t *testing.T) {
	for _, s := range scenes(t) {
		for die := range steps {
			d, e := s.cut(t, "c", func(d *blocks.Disk) { d.Die(die) })
			for _, keep := range masks(4) {
				c := d.Copy()
				c.Crash(keep)
				found(t, fmt.Sprint(s.puts, die, keep), c, s.outcomes(e, "c")...)
			}
		}
	}
}

// P4, P6: in Open that follows the disk dies too, at each call; what Open has found with OK stays, whatever is kept.
func TestOpenCutOff(t *testing.T) {
	for _, s := range scenes(t) {
		for die := range steps {
			d, e := s.cut(t, "c", func(d *blocks.Disk) { d.Die(die) })
			for _, keep := range masks(4) {
				c := d.Copy()
				c.Crash(keep)
				s.openCutOff(t, fmt.Sprint(s.puts, die, keep), c, s.outcomes(e, "c"))
			}
		}
	}
}

func (s scene) openCutOff(t *testing.T, where string, d *blocks.Disk, may [][]string) {
	t.Helper()
	for die := 1; die < steps; die++ {
		c := d.Copy()
		c.Die(die)
		l, e := Open(c)
		if !fits(e, c, d.Failed()) || l == nil != (e != api.OK) {
			t.Fatalf("%s: Open, dead behind %d = %v, %d", where, die, l, e)
		}
		now := may
		if e == api.OK && !c.Dead() {
			now = [][]string{content(t, l)}
		}
		for _, keep := range masks(4) {
			again := c.Copy()
			again.Crash(keep)
			found(t, fmt.Sprint(where, die, keep), again, now...)
		}
	}
}

// P4, P6: each call of Commit fails, without a crash, and each of Open behind it. What Open has found at last stays behind a crash, and a Commit behind it that is cut off leaves no half.
func TestCommitFails(t *testing.T) {
	for _, s := range scenes(t) {
		for fail := range steps {
			d, e := s.cut(t, "c", func(d *blocks.Disk) { d.Fail(fail) })
			may := s.outcomes(e, "c")
			for failOpen := range steps {
				c := d.Copy()
				c.Fail(failOpen)
				l, e := Open(c)
				if !fits(e, c, d.Failed()) || l == nil != (e != api.OK) {
					t.Fatalf("%v: Open, where call %d fails = %v, %d", s.puts, failOpen, l, e)
				}
				c.Fail(farPast)
				where := fmt.Sprint(s.puts, fail, failOpen)
				has := found(t, where, c.Copy(), may...)
				s.crashBehindOpen(t, where, c, has, may)
			}
		}
	}
}

// crashBehindOpen: a crash ahead of Open may leave either; one behind it leaves what was found, and what a later Commit has done, or not.
func (s scene) crashBehindOpen(t *testing.T, where string, d *blocks.Disk, has []string, may [][]string) {
	t.Helper()
	for _, keep := range masks(4) {
		c := d.Copy()
		c.Crash(keep)
		found(t, where+" no Open", c, may...)
		c = d.Copy()
		found(t, where, c, has)
		c.Crash(keep)
		found(t, where+" crash", c, has)
	}
	next := scene{disk: d, was: has, puts: []int{2, 7, 4}}
	for die := 1; die < steps; die++ {
		c, e := next.cut(t, "d", func(d *blocks.Disk) { d.Die(die) })
		for _, keep := range masks(4) {
			again := c.Copy()
			again.Crash(keep)
			found(t, fmt.Sprint(where, " next ", die, keep), again, next.outcomes(e, "d")...)
		}
	}
}

// full is a full transaction on the greatest disk, with the last block in it.
func full(t *testing.T) scene {
	d := blocks.New(4096)
	l := open(t, d)
	var puts []int
	for i := range api.MaxPuts {
		puts = append(puts, l.Blocks()-1-i*50)
	}
	return scene{disk: d, was: content(t, l), puts: puts}
}

// lots are ways to keep writes of a full transaction: none, all, and some by lot.
func lots(r *rand.Rand) [][]int {
	list := [][]int{nil, slices.Repeat([]int{1}, api.MaxPuts+1), nil}
	for range api.MaxPuts + 1 {
		list[2] = append(list[2], r.Intn(2))
	}
	return list
}

// P4, P6: a full transaction is cut off at each call of Commit.
func TestFullCommitCutOff(t *testing.T) {
	r := rand.New(rand.NewSource(1))
	s := full(t)
	for die := range 2*api.MaxPuts + 10 {
		d, e := s.cut(t, "c", func(d *blocks.Disk) { d.Die(die) })
		for _, keep := range lots(r) {
			c := d.Copy()
			c.Crash(keep)
			found(t, fmt.Sprint(die, keep), c, s.outcomes(e, "c")...)
		}
	}
}

// P4, P6: a full transaction is cut off when it is noted, and Open behind it at each call, by a disk that dies, and by one that fails.
func TestFullOpenCutOff(t *testing.T) {
	r := rand.New(rand.NewSource(2))
	s := full(t)
	d, _ := s.cut(t, "c", func(d *blocks.Disk) { d.Die(api.MaxPuts + 3) })
	d.Crash(nil)
	done := with(s.was, "c", s.puts)
	for step := 1; step < api.MaxPuts+6; step++ {
		c := d.Copy()
		c.Die(step)
		if _, e := Open(c); !fits(e, c, d.Failed()) {
			t.Fatalf("Open, dead behind %d = %d", step, e)
		}
		for _, keep := range lots(r) {
			again := c.Copy()
			again.Crash(keep)
			found(t, fmt.Sprint(step, keep), again, done)
		}
		c = d.Copy()
		c.Fail(step)
		if _, e := Open(c); !fits(e, c, d.Failed()) {
			t.Fatalf("Open, where call %d fails = %d", step, e)
		}
		c.Fail(farPast)
		found(t, fmt.Sprint(step), c, done)
	}
}
