package wal

import (
	"maps"
	"math/rand"
	"slices"
	"strings"
	"testing"

	"gauze/api"
	"gauze/blocks"
)

// world is a log with what the document says of it: what may be sure, and what was put.
type world struct {
	t      *testing.T
	r      *rand.Rand
	disk   *blocks.Disk
	log    *Log
	may    [][]string
	puts   map[int]string
	broken bool
}

func newWorld(t *testing.T, seed int64) *world {
	r := rand.New(rand.NewSource(seed))
	n := 1 + r.Intn(10)
	if seed%4 == 0 {
		n = api.MaxPuts + 20 + r.Intn(5)
	}
	w := &world{t: t, r: r, disk: blocks.New(api.LogSize + n)}
	w.may = [][]string{slices.Repeat([]string{filled("")}, n)}
	w.open()
	return w
}

func (w *world) size() int { return w.disk.Blocks() - api.LogSize }

func (w *world) text() string {
	return strings.Repeat(string([]byte{byte('a' + w.r.Intn(26))}), w.r.Intn(blocks.Size+1))
}

// open opens the log till it is open.
func (w *world) open() {
	for {
		was := w.disk.Failed()
		l, e := Open(w.disk)
		if !fits(e, w.disk, was) || l == nil != (e != api.OK) {
			w.t.Fatalf("Open = %v, %d", l, e)
		}
		if e == api.OK {
			w.log = l
			break
		}
		w.calm()
	}
	w.puts, w.broken = map[int]string{}, false
	if w.disk.Dead() {
		w.calm()
		w.open()
		return
	}
	has := content(w.t, w.log)
	if !slices.ContainsFunc(w.may, func(one []string) bool { return slices.Equal(one, has) }) {
		w.t.Fatalf("Open has found %.3q", has)
	}
	w.may = [][]string{has}
}

// calm is a crash, if the disk is dead; else there may be one.
func (w *world) calm() {
	if !w.disk.Dead() && w.r.Intn(2) == 0 {
		return
	}
	keep := make([]int, w.r.Intn(100))
	for i := range keep {
		keep[i] = w.r.Intn(9) - 4
	}
	w.disk.Crash(keep)
}

func (w *world) put() {
	at, data := w.r.Intn(w.size()+2)-1, w.text()
	if w.r.Intn(20) == 0 {
		data = strings.Repeat("z", blocks.Size+1)
	}
	_, again := w.puts[at]
	want := api.OK
	switch {
	case at < 0 || at >= w.size() || len(data) > blocks.Size:
		want = api.ErrArg
	case !again && len(w.puts) >= api.MaxPuts:
		want = api.ErrFull
	}
	if e := w.log.Put(at, data); e != want {
		w.t.Fatalf("Put(%d) = %d, want %d", at, e, want)
	}
	if want == api.OK {
		w.puts[at] = filled(data)
	}
}

func (w *world) get() {
	at := w.r.Intn(w.size()+2) - 1
	got, e := w.log.Get(at)
	wrong := at < 0 || at >= w.size()
	switch {
	case e != api.OK && got != "", wrong != (e == api.ErrArg):
		w.t.Fatalf("Get(%d) = %.20q, %d", at, got, e)
	case wrong:
	case w.disk.Dead():
		if e != api.ErrDisk {
			w.t.Fatalf("Get(%d) of a dead disk = %d", at, e)
		}
	case e == api.ErrDisk:
		if !w.broken {
			w.t.Fatalf("Get(%d) = %d", at, e)
		}
	default:
		want, there := w.puts[at]
		if !there {
			want = w.may[0][at]
		}
		if e != api.OK || got != want {
			w.t.Fatalf("Get(%d) = %.20q, %d, want %.20q", at, got, e, want)
		}
	}
}

func (w *world) commit() {
	was := w.disk.Failed()
	e := w.log.Commit()
	switch {
	case w.broken:
		if e != api.ErrDisk && (e != api.OK || len(w.puts) > 0) || w.disk.Failed() > was {
			w.t.Fatalf("Commit behind one that failed = %d", e)
		}
	case !fits(e, w.disk, was) || e != api.OK && len(w.puts) == 0:
		w.t.Fatalf("Commit of %d blocks = %d", len(w.puts), e)
	case e == api.OK:
		w.may = [][]string{w.done()}
	default:
		w.may = append(w.may, w.done())
		w.broken = true
	}
	w.puts = map[int]string{}
}

// done is what is sure, if all that was put is.
func (w *world) done() []string {
	now := slices.Clone(w.may[0])
	for at, data := range w.puts {
		now[at] = data
	}
	return now
}

func (w *world) step() {
	k := w.r.Intn(100)
	if w.size() > api.MaxPuts && w.r.Intn(80) > 0 {
		k %= 60 // so that a transaction gets full
	}
	switch {
	case k < 45:
		w.put()
	case k < 60:
		w.get()
	case k < 75:
		w.commit()
	case k < 78:
		w.log.Drop()
		maps.DeleteFunc(w.puts, func(int, string) bool { return true })
	case k < 84:
		w.disk.Fail(w.r.Intn(25))
	case k < 89:
		w.disk.Die(w.r.Intn(25))
	case k < 95:
		w.open()
	default:
		w.calm()
		w.open()
	}
	if w.log.Blocks() != w.size() {
		w.t.Fatalf("Blocks = %d", w.log.Blocks())
	}
}

// P1, P4, P5, P6: whatever is done, and whatever the disk does, the log is as the document says.
func TestAgainstModel(t *testing.T) {
	for seed := range int64(2000) {
		w := newWorld(t, seed)
		for range 300 {
			w.step()
		}
	}
}
