package gauze

import (
	"fmt"
	"maps"
	"math/rand"
	"slices"
	"strings"
	"testing"

	"gauze/api"
	"gauze/blocks"
)

// items are things by path, as a model has them.
type items map[string]api.Item

func itemsOf(l []api.Item) items {
	m := items{}
	for _, item := range l {
		m[item.Path] = item
	}
	return m
}

func (m items) list() []api.Item {
	var l []api.Item
	for _, path := range slices.Sorted(maps.Keys(m)) {
		l = append(l, m[path])
	}
	return l
}

func (m items) take(path string) {
	maps.DeleteFunc(m, func(p string, _ api.Item) bool { return strings.HasPrefix(p+"/", path+"/") })
}

// in are the last steps of what is in a directory.
func (m items) in(dir string) []string {
	var steps []string
	for _, path := range slices.Sorted(maps.Keys(m)) {
		if parent(path) == dir {
			steps = append(steps, path[strings.LastIndex(path, "/")+1:])
		}
	}
	return steps
}

func parent(path string) string { return path[:max(0, strings.LastIndex(path, "/"))] }

// refusal is the error that a call has on a plain tree, but ErrFull.
func (m items) refusal(c call) api.Errno {
	for _, path := range []string{c.path, c.to} {
		if strings.HasSuffix(path, "/") || strings.Count(path, "/") > 3 {
			return api.ErrArg
		}
	}
	if c.path == "" || c.name == "Rename" && c.to == "" || len(c.data) > 400 || c.mode < 0 || c.mode > 511 {
		return api.ErrArg
	}
	it, there := m[c.path]
	switch {
	case c.name == "Write":
		return m.noFile(c.path)
	case c.name == "Mkdir":
		if e := m.noDir(parent(c.path)); e != api.OK {
			return e
		}
		if there {
			return api.ErrThere
		}
	case !there:
		return api.ErrNone
	case c.name == "Remove" && len(m.in(c.path)) > 0:
		return api.ErrBusy
	case c.name == "Rename" && it.Kind == api.Dir:
		return api.ErrKind
	case c.name == "Rename":
		return m.noFile(c.to)
	}
	return api.OK
}

func (m items) noDir(path string) api.Errno {
	it, there := m[path]
	switch {
	case path == "":
		return api.OK
	case !there:
		return api.ErrNone
	case it.Kind == api.File:
		return api.ErrKind
	}
	return api.OK
}

func (m items) noFile(path string) api.Errno {
	if e := m.noDir(parent(path)); e != api.OK {
		return e
	}
	if m[path].Kind == api.Dir {
		return api.ErrKind
	}
	return api.OK
}

// done is a plain tree, behind a call that is not refused: no layer is thought of here (P16).
func (m items) done(c call) items {
	m = maps.Clone(m)
	it, there := m[c.path]
	switch c.name {
	case "Write":
		if !there {
			it = newFile(c.path, "")
		}
		it.Data = c.data
		m[c.path] = it
	case "Mkdir":
		m[c.path] = newDir(c.path)
	case "Chmod":
		m[c.path] = moded(it, c.mode)
	case "Remove":
		delete(m, c.path)
	case "Rename":
		delete(m, c.path)
		it.Path = c.to
		m[c.to] = it
	}
	return m
}

// model is a tree and a layer over it, and what is seen, as the document says in its words.
type model struct {
	tree, over, seen items
}

func newModel(lower []api.Item) model {
	return model{tree: itemsOf(lower), over: items{}, seen: itemsOf(lower)}
}

func (m model) clear(dir string) bool {
	over, covered := m.over[dir]
	return dir == "" || m.tree[dir].Kind == api.Dir && (!covered || over.Kind == api.Dir && !over.Opaque) && m.clear(parent(dir))
}

func (m model) copyUp(path string) {
	if _, covered := m.over[path]; path != "" && !covered {
		m.copyUp(parent(path))
		m.over[path] = m.seen[path]
	}
}

func (m model) remove(path string) {
	m.over.take(path)
	if _, there := m.tree[path]; there && m.clear(parent(path)) {
		m.copyUp(parent(path))
		m.over[path] = white(path)
	}
}

// done is the model behind a call, or the error that it has, but ErrDisk.
func (m model) done(c call) (model, api.Errno) {
	if e := m.seen.refusal(c); e != api.OK {
		return m, e
	}
	now := model{tree: m.tree, over: maps.Clone(m.over), seen: m.seen}
	now.change(c)
	now.seen = m.seen.done(c)
	if len(now.seen) > 40 || len(now.over) > 40 {
		return m, api.ErrFull
	}
	return now, api.OK
}

// change does a call to the layer; what is seen is still as it was ahead of it.
func (m model) change(c call) {
	it, there := m.seen[c.path]
	switch c.name {
	case "Write":
		m.copyUp(parent(c.path))
		if !there {
			it = newFile(c.path, "")
		}
		it.Data = c.data
		m.over[c.path] = it
	case "Mkdir":
		m.copyUp(parent(c.path))
		it = newDir(c.path)
		it.Opaque = m.over[c.path].Kind == api.White
		m.over[c.path] = it
	case "Chmod":
		m.copyUp(c.path)
		m.over[c.path] = moded(m.over[c.path], c.mode)
	case "Remove":
		m.remove(c.path)
	case "Rename":
		if c.path == c.to {
			return
		}
		m.copyUp(parent(c.to))
		it.Path = c.to
		m.over[c.to] = it
		m.remove(c.path)
	}
}

// key is what two models that are the same have in common.
func (m model) key() string { return fmt.Sprint(m.over.list()) }

// fits: the file system tells what the model has. That what is seen fits the layer is held against Merge.
func (m model) fits(t *testing.T, f *FS) {
	t.Helper()
	tells(t, f, m.tree.list(), m.over.list()...)
	if l := f.Tree(); !slices.Equal(l, m.seen.list()) {
		t.Errorf("Tree = %s, want %s", brief(l), brief(m.seen.list()))
	}
	if t.Failed() {
		t.FailNow()
	}
}

// smallTrees are all trees on few paths.
func smallTrees() [][]api.Item {
	var trees [][]api.Item
	for _, a := range [][]api.Item{
		nil, list(file("a", "1")), list(dir("a")), list(dir("a"), file("a/b", "2")), list(dir("a"), dir("a/b")),
		list(dir("a"), dir("a/b"), file("a/b/c", "3")),
	} {
		for _, e := range [][]api.Item{nil, list(file("e", "4")), list(dir("e"))} {
			trees = append(trees, slices.Concat(a, e))
		}
	}
	return trees
}

// smallCalls are all calls on these paths, as far as they differ in more than data and modes.
func smallCalls() []call {
	var all []call
	some := []string{"a", "a/b", "a/b/c", "e"}
	for _, path := range some {
		all = append(all, write(path, "w"), mkdir(path), chmod(path, 7), remove(path))
		for _, to := range some {
			all = append(all, rename(path, to))
		}
	}
	return all
}

// state is a model, and a disk that should have it.
type state struct {
	model model
	disk  *blocks.Disk
}

// P11 to P14, P16: over every small tree every call does what it should, in every state that calls lead to.
func TestAllSmall(t *testing.T) {
	states := 0
	for _, lower := range smallTrees() {
		first := state{model: newModel(lower), disk: blocks.New(api.MinSize)}
		known := map[string]bool{first.model.key(): true}
		for work := []state{first}; len(work) > 0; work = work[1:] {
			for _, next := range work[0].nexts(t) {
				if key := next.model.key(); !known[key] {
					known[key] = true
					work = append(work, next)
				}
			}
		}
		states += len(known)
	}
	if states < 1000 {
		t.Errorf("only %d states", states)
	}
}

// nexts are the states that calls lead to, but Chmod: modes change nothing of what comes, and would make too many of them.
func (s state) nexts(t *testing.T) []state {
	t.Helper()
	var all []state
	refuses := open(t, s.disk.Copy(), s.model.tree.list())
	for _, c := range smallCalls() {
		now, want := s.model.done(c)
		if want != api.OK {
			do(t, refuses, want, c)
			continue
		}
		d := s.disk.Copy()
		f := open(t, d, s.model.tree.list())
		do(t, f, api.OK, c)
		now.fits(t, f)
		if c.name != "Chmod" {
			all = append(all, state{model: now, disk: d})
		}
	}
	s.model.fits(t, refuses)
	return all
}

// world is a file system, with what the document says of it.
type world struct {
	t      *testing.T
	r      *rand.Rand
	disk   *blocks.Disk
	lower  []api.Item
	fs     *FS
	may    []model // what Open may find; the first is what there was ahead of a call that failed
	broken bool
	many   bool
	quiet  bool // there is no trouble with the disk
	count  map[api.Errno]int
}

// somePath is one that is there, or one of not so many, so that calls meet, or of many, so that there are too many items.
func (w *world) somePath(m items) string {
	l := m.list()
	if len(l) > 0 && w.r.Intn(2) == 0 {
		return l[w.r.Intn(len(l))].Path
	}
	if w.many && w.r.Intn(4) > 0 {
		return fmt.Sprintf("n%02d", w.r.Intn(60))
	}
	dirs := slices.DeleteFunc(l, func(it api.Item) bool { return it.Kind != api.Dir })
	step := []string{"a", "b", "a-", "c."}[w.r.Intn(4)]
	if len(dirs) > 0 && w.r.Intn(4) > 0 {
		return dirs[w.r.Intn(len(dirs))].Path + "/" + step
	}
	return step + []string{"", "", "", "/a", "/b/a"}[w.r.Intn(5)]
}

func (w *world) someData() string {
	return strings.Repeat(string([]byte{byte(w.r.Intn(256))}), w.r.Intn(401))
}

// someTree is what some calls leave of a plain tree.
func (w *world) someTree() []api.Item {
	m := items{}
	for range w.r.Intn(200) {
		c := w.someCall(m)
		if m.refusal(c) != api.OK || c.name == "Remove" {
			continue
		}
		if next := m.done(c); len(next) <= 40 {
			m = next
		}
	}
	l := m.list()
	w.r.Shuffle(len(l), func(i, k int) { l[i], l[k] = l[k], l[i] })
	return l
}

// someCall is one over a tree that is seen.
func (w *world) someCall(seen items) call {
	c := call{path: w.somePath(seen)}
	names := []string{"Rename", "Chmod", "Write", "Write", "Mkdir", "Mkdir", "Remove", "Remove", "Remove"}
	if w.many {
		names = names[:7] // so that there are more and more
	}
	c.name = names[w.r.Intn(len(names))]
	switch c.name {
	case "Write":
		c.data = w.someData()
	case "Chmod":
		c.mode = w.r.Intn(512)
	case "Rename":
		c.to = w.somePath(seen)
	}
	switch w.r.Intn(100) {
	case 0:
		c.path += "/"
	case 1:
		c.mode = -1 + w.r.Intn(2)*513
		c.name = "Chmod"
	case 2:
		c.data = strings.Repeat("x", 401)
		c.name = "Write"
	case 3:
		c.to += "/"
		c.name = "Rename"
	}
	return c
}

// open opens the file system till it is open.
func (w *world) open() {
	for {
		was := w.disk.Failed()
		f, e := Open(w.disk, w.lower)
		if !mayAnswer(e, w.disk, was) || f == nil != (e != api.OK) {
			w.t.Fatalf("Open = %v, %d", f, e)
		}
		if e == api.OK {
			w.fs, w.broken = f, false
			break
		}
		w.calm()
	}
	l := w.fs.Layer()
	at := slices.IndexFunc(w.may, func(m model) bool { return slices.Equal(m.over.list(), l) })
	if at < 0 {
		w.t.Fatalf("Open has found %s", brief(l))
	}
	w.may = []model{w.may[at]}
}

// calm is a crash, if the disk is dead; else there may be one.
func (w *world) calm() {
	if !w.disk.Dead() && w.r.Intn(2) == 0 {
		return
	}
	keep := make([]int, w.r.Intn(40))
	for i := range keep {
		keep[i] = w.r.Intn(9) - 4
	}
	w.disk.Crash(keep)
}

// do does a call; one that leaves the layer as it was may be OK whatever the disk does.
func (w *world) do() {
	c := w.someCall(w.may[0].seen)
	now, want := w.may[0].done(c)
	was, dead := w.disk.Failed(), w.disk.Dead()
	e := c.do(w.fs)
	w.count[e]++
	idle := maps.Equal(now.over, w.may[0].over)
	switch {
	case want != api.OK:
		if e != want {
			w.t.Fatalf("%s = %d, want %d", brief(c), e, want)
		}
	case idle && e == api.OK:
	case w.broken:
		if e != api.ErrDisk || w.disk.Failed() > was && !dead {
			w.t.Fatalf("%s behind a call that failed = %d", brief(c), e)
		}
	case !mayAnswer(e, w.disk, was) || dead && e == api.OK:
		w.t.Fatalf("%s = %d", brief(c), e)
	case e == api.OK:
		w.may = []model{now}
	default:
		w.may = append(w.may, now)
		w.broken = true
	}
}

func (w *world) step() {
	switch k := w.r.Intn(100); {
	case k < 70:
		w.do()
	case k < 84:
		w.may[0].fits(w.t, w.fs)
	case k < 87 && !w.quiet:
		w.disk.Fail(w.r.Intn(40))
	case k < 90 && !w.quiet:
		w.disk.Die(w.r.Intn(40))
	case k < 95:
		w.open()
	default:
		w.calm()
		w.open()
	}
}

// P10 to P16: whatever is done, and whatever the disk does, the file system is as the document says.
func TestAgainstModel(t *testing.T) {
	count := map[api.Errno]int{}
	for seed := range int64(200) {
		w := &world{t: t, r: rand.New(rand.NewSource(seed)), disk: blocks.New(api.MinSize), many: seed%3 == 0, quiet: seed%2 == 0, count: count}
		w.lower = w.someTree()
		w.may = []model{newModel(w.lower)}
		w.open()
		for range 200 {
			w.step()
		}
	}
	for e := api.OK; e <= api.ErrDisk; e++ {
		if e != api.ErrTree && e != api.ErrLayer && count[e] < 50 {
			t.Errorf("the error %d was answered only %d times", e, count[e])
		}
	}
}
