package base

import (
	"maps"
	"math/rand"
	"slices"
	"strconv"
	"strings"
	"testing"

	"gauze/api"
	"gauze/blocks"
)

// model is the nodes that the document says there are.
type model map[string]api.Node

func (m model) list() []api.Node {
	var list []api.Node
	for _, path := range slices.Sorted(maps.Keys(m)) {
		list = append(list, m[path])
	}
	return list
}

// done is the model behind the deeds, or the error that they have.
func (m model) done(deeds []api.Deed) (model, api.Errno) {
	if len(deeds) > api.MaxDeeds {
		return nil, api.ErrArg
	}
	for _, deed := range deeds {
		n := deed.Node
		if len(n.Path) > 20 || n.Path == "" || strings.HasSuffix(n.Path, "/") {
			return nil, api.ErrArg
		}
		if !deed.Take && (n.Mode < 0 || n.Mode > 511 || n.Tag < 0 || n.Tag > 255 || n.Kind != 1 && n.Kind != 2 || len(n.Data) > (2-n.Kind)*400) {
			return nil, api.ErrArg
		}
	}
	now := maps.Clone(m)
	for _, deed := range deeds {
		if e := now.do(deed); e != api.OK {
			return nil, e
		}
	}
	return now, api.OK
}

func (m model) do(deed api.Deed) api.Errno {
	path := deed.Node.Path
	old, there := m[path]
	if deed.Take {
		if !there {
			return api.ErrNone
		}
		maps.DeleteFunc(m, func(p string, _ api.Node) bool { return strings.HasPrefix(p+"/", path+"/") })
		return api.OK
	}
	if at := strings.LastIndex(path, "/"); at >= 0 {
		parent, there := m[path[:at]]
		if !there {
			return api.ErrNone
		}
		if parent.Kind == api.File {
			return api.ErrKind
		}
	}
	if there && old.Kind != deed.Node.Kind {
		return api.ErrKind
	}
	if !there && len(m) == 60 {
		return api.ErrFull
	}
	m[path] = deed.Node
	return api.OK
}

// somePath is one of not so many, so that deeds meet, or of many, most of them in the root, so that the base gets full.
func somePath(r *rand.Rand, many bool) string {
	if many && r.Intn(12) > 0 {
		return "n" + strconv.Itoa(r.Intn(100))
	}
	steps := []string{"a", "b", "a-", "b.", "c"}
	var path []string
	for range 1 + r.Intn(1+r.Intn(4)) {
		path = append(path, steps[r.Intn(len(steps))])
	}
	return strings.Join(path, "/")
}

func someNode(r *rand.Rand, many bool) api.Node {
	n := api.Node{Path: somePath(r, many), Kind: api.Dir, Mode: r.Intn(512), Tag: r.Intn(256)}
	if r.Intn(3) == 0 || n.Path[0] == 'n' || strings.Count(n.Path, "/") == 3 {
		n.Kind = api.File
		n.Data = strings.Repeat(string([]byte{byte(r.Intn(256))}), r.Intn(401))
	}
	return n
}

// someWrong is a node with one thing wrong.
func someWrong(r *rand.Rand) api.Node {
	n := someNode(r, false)
	switch r.Intn(6) {
	case 0:
		n.Path += "/"
	case 1:
		n.Path = ""
	case 2:
		n.Kind = r.Intn(2) * 3
	case 3:
		n.Mode = -1 + r.Intn(2)*513
	case 4:
		n.Tag = -1 + r.Intn(2)*257
	case 5:
		n.Data = strings.Repeat("x", 401)
	}
	return n
}

func someDeeds(r *rand.Rand, many bool) []api.Deed {
	var deeds []api.Deed
	for range r.Intn(2 + r.Intn(13)) {
		n := someNode(r, many)
		if r.Intn(200) == 0 {
			n = someWrong(r)
		}
		deeds = append(deeds, api.Deed{Take: r.Intn(16) == 0, Node: n})
	}
	return deeds
}

// world is a base with what the document says of it.
type world struct {
	t      *testing.T
	r      *rand.Rand
	disk   *blocks.Disk
	base   *Base
	may    []model // what Open may find; the first is what there was ahead of a Do that failed
	broken bool
	many   bool
	count  map[api.Errno]int
}

// open opens the base till it is open.
func (w *world) open() {
	for {
		was := w.disk.Failed()
		b, e := Open(w.disk)
		if !fits(e, w.disk, was) || b == nil != (e != api.OK) {
			w.t.Fatalf("Open = %v, %d", b, e)
		}
		if e == api.OK {
			w.base, w.broken = b, false
			break
		}
		w.calm()
	}
	list, e := w.base.Nodes()
	at := slices.IndexFunc(w.may, func(m model) bool { return slices.Equal(m.list(), list) })
	if e != api.OK || at < 0 {
		w.t.Fatalf("Open has found %s, %d", brief(list), e)
	}
	w.may = []model{w.may[at]}
}

// calm is a crash, if the disk is dead; else there may be one.
func (w *world) calm() {
	if !w.disk.Dead() && w.r.Intn(2) == 0 {
		return
	}
	keep := make([]int, w.r.Intn(100))
	for i := range keep {
		keep[i] = w.r.Intn(9) - 4
	}
	w.disk.Crash(keep)
}

func (w *world) do() {
	deeds := someDeeds(w.r, w.many)
	now, want := w.may[0].done(deeds)
	was, dead := w.disk.Failed(), w.disk.Dead()
	e := w.base.Do(deeds)
	w.count[e]++
	switch {
	case want == api.ErrArg:
		if e != want {
			w.t.Fatalf("Do(%s) = %d, want %d", brief(deeds), e, want)
		}
	case w.broken:
		if e != api.ErrDisk && (e != want || want == api.OK && len(deeds) > 0) || w.disk.Failed() > was && !dead {
			w.t.Fatalf("Do(%s) behind one that failed = %d", brief(deeds), e)
		}
	case want != api.OK:
		if e != want && (e != api.ErrDisk || !dead) {
			w.t.Fatalf("Do(%s) = %d, want %d", brief(deeds), e, want)
		}
		w.broken = e == api.ErrDisk
	case !fits(e, w.disk, was) || dead && e == api.OK:
		w.t.Fatalf("Do(%s) = %d", brief(deeds), e)
	case e == api.OK:
		w.may = []model{now}
	default:
		w.may = append(w.may, now)
		w.broken = true
	}
}

func (w *world) look() {
	list, e := w.base.Nodes()
	if !w.mayTell(e) || e == api.OK && !slices.Equal(list, w.may[0].list()) || e != api.OK && len(list) > 0 {
		w.t.Fatalf("Nodes = %s, %d, want %s", brief(list), e, brief(w.may[0].list()))
	}
	path := somePath(w.r, w.many)
	n, e := w.base.Read(path)
	want, there := w.may[0][path]
	if e == api.ErrNone && !there {
		e = api.OK
	}
	if !w.mayTell(e) || e == api.OK && n != want || e != api.OK && n != (api.Node{}) {
		w.t.Fatalf("Read(%s) = %s, %d, want %s", path, brief(n), e, brief(want))
	}
	if n, e := w.base.Read(path + "/"); n != (api.Node{}) || e != api.ErrArg {
		w.t.Fatalf("Read(%s/) = %s, %d", path, brief(n), e)
	}
}

// mayTell: a dead disk is told of, and else ErrDisk only behind a Do that failed.
func (w *world) mayTell(e api.Errno) bool {
	if w.disk.Dead() {
		return e == api.ErrDisk
	}
	return e == api.OK || e == api.ErrDisk && w.broken
}

func (w *world) step() {
	switch k := w.r.Intn(100); {
	case k < 60:
		w.do()
	case k < 80:
		w.look()
	case k < 84:
		w.disk.Fail(w.r.Intn(60))
	case k < 88:
		w.disk.Die(w.r.Intn(60))
	case k < 94:
		w.open()
	default:
		w.calm()
		w.open()
	}
}

// P1, P7, P8, P9: whatever is done, and whatever the disk does, the base is as the document says.
func TestAgainstModel(t *testing.T) {
	count := map[api.Errno]int{}
	for seed := range int64(300) {
		r := rand.New(rand.NewSource(seed))
		w := &world{t: t, r: r, disk: blocks.New(api.MinSize + r.Intn(3)), may: []model{{}}, many: seed%3 == 0, count: count}
		w.open()
		for range 200 {
			w.step()
		}
	}
	for _, e := range []api.Errno{api.OK, api.ErrArg, api.ErrNone, api.ErrKind, api.ErrFull, api.ErrDisk} {
		if count[e] < 20 {
			t.Errorf("the error %d was answered only %d times", e, count[e])
		}
	}
}
