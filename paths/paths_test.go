package paths

import (
	"slices"
	"strings"
	"testing"
)

func TestValid(t *testing.T) {
	for _, path := range []string{
		"a", "z", "0", "9", "_", "-", "...", ".a", "a.", "..a", "a..", "-.-",
		"eightbyt", "a/b", "a/b/c/d", "eightbyt/eightbyt/eightbyt/eightbyt",
	} {
		if !Valid(path) {
			t.Errorf("%q is a path", path)
		}
	}
}

func TestNotValid(t *testing.T) {
	for _, path := range []string{
		"", "/", "//", "/a", "a/", "a//b", "a/b/c/d/", "a/b/c/d/e", ".", "..", "a/.", "a/..", "./a", "../a", "a/../b",
		"ninebytes", "a/ninebytes", "ninebytes/a", "A", "Z", "a b", " ", "a\x00", "a\n", "é", "\xff", "`", "{", ":", ",", "\\", "a*",
		strings.Repeat("a", 1<<20), strings.Repeat("a/", 1<<20), strings.Repeat("/", 1<<20),
	} {
		if Valid(path) {
			t.Errorf("%.20q is no path", path)
		}
	}
}

func TestValidBytes(t *testing.T) {
	const may = "abcdefghijklmnopqrstuvwxyz0123456789._-"
	for b := range 256 {
		step := "x" + string([]byte{byte(b)}) + "x"
		want := strings.Contains(may, step[1:2]) || b == '/'
		if got := Valid(step); got != want {
			t.Errorf("Valid(%q) = %t", step, got)
		}
	}
}

func TestParent(t *testing.T) {
	for path, want := range map[string]string{"a": Root, "a/b": "a", "a/b/c": "a/b", "a.b/c-d/e/f": "a.b/c-d/e", "": Root} {
		if got := Parent(path); got != want {
			t.Errorf("Parent(%q) = %q, want %q", path, got, want)
		}
	}
}

func TestLast(t *testing.T) {
	for path, want := range map[string]string{"a": "a", "a/b": "b", "a/b/c-d": "c-d", "a.b/c/d/e": "e", "": ""} {
		if got := Last(path); got != want {
			t.Errorf("Last(%q) = %q, want %q", path, got, want)
		}
	}
}

func TestIsBelow(t *testing.T) {
	for _, pair := range [][2]string{{"a/b", "a"}, {"a/b/c/d", "a"}, {"a/b/c/d", "a/b"}, {"a-b/c", "a-b"}} {
		if !IsBelow(pair[0], pair[1]) {
			t.Errorf("%q is below %q", pair[0], pair[1])
		}
		if IsBelow(pair[1], pair[0]) {
			t.Errorf("%q is not below %q", pair[1], pair[0])
		}
	}
	for _, pair := range [][2]string{{"a", "a"}, {"ab", "a"}, {"a-b", "a"}, {"ab/c", "a"}, {"b/a", "a"}, {"b/a/c", "a"}} {
		if IsBelow(pair[0], pair[1]) {
			t.Errorf("%q is not below %q", pair[0], pair[1])
		}
	}
}

func TestMapInOrder(t *testing.T) {
	want := []string{"-", ".a", "0", "_", "a", "a-b", "a.b", "a/b", "a/b/c", "a0", "aa", "b"}
	var m Map[string]
	for i := range want {
		path := want[i*5%len(want)]
		m.Put(path, path)
	}
	if got := slices.Collect(m.All()); !slices.Equal(got, want) {
		t.Errorf("All = %q, want %q", got, want)
	}
}

func TestMapPutAndGet(t *testing.T) {
	var m Map[int]
	if _, there := m.Get("a"); there || m.Len() != 0 {
		t.Error("a new Map has something")
	}
	m.Put("b", 1)
	m.Put("a", 2)
	m.Put("b", 3)
	if thing, there := m.Get("b"); thing != 3 || !there {
		t.Errorf("b = %d, %t", thing, there)
	}
	if thing, there := m.Get("c"); thing != 0 || there {
		t.Errorf("c = %d, %t", thing, there)
	}
	if m.Len() != 2 {
		t.Errorf("Len = %d", m.Len())
	}
}

func TestMapDelete(t *testing.T) {
	var m Map[int]
	m.Delete("a")
	for i, path := range []string{"d", "b", "a", "c"} {
		m.Put(path, i)
	}
	m.Delete("b")
	m.Delete("b")
	m.Delete("none")
	if _, there := m.Get("b"); there || m.Len() != 3 {
		t.Errorf("b is there, or not all else: %d", m.Len())
	}
	if got := slices.Collect(m.All()); !slices.Equal(got, []int{2, 3, 0}) {
		t.Errorf("All = %v", got)
	}
	m.Put("b", 7)
	if got := slices.Collect(m.All()); !slices.Equal(got, []int{2, 7, 3, 0}) {
		t.Errorf("All = %v", got)
	}
}

func TestMapClone(t *testing.T) {
	var m Map[int]
	for i, path := range []string{"a", "b", "c"} {
		m.Put(path, i)
	}
	c := m.Clone()
	m.Put("a", 7)
	m.Put("z", 8)
	c.Delete("b")
	c.Put("d", 9)
	if got := slices.Collect(m.All()); !slices.Equal(got, []int{7, 1, 2, 8}) {
		t.Errorf("All = %v", got)
	}
	if got := slices.Collect(c.All()); !slices.Equal(got, []int{0, 2, 9}) {
		t.Errorf("All of the clone = %v", got)
	}
}

func TestMapStopsWhenAsked(t *testing.T) {
	var m Map[int]
	m.Put("a", 1)
	m.Put("b", 2)
	for thing := range m.All() {
		if thing != 1 {
			t.Errorf("went on to %d", thing)
		}
		break
	}
}
