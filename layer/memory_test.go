package layer

import (
	"runtime"
	"slices"
	"strings"
	"testing"
	"time"

	"gauze/api"
)

// roomy is a list with spare room behind it in which something stands.
func roomy(l []api.Item) []api.Item {
	r := slices.Concat(l, list(file("spare", "1"), white("room"), dir("there")))
	return r[:len(l)]
}

// whole is a list with its spare room.
func whole(l []api.Item) []api.Item { return l[:cap(l)] }

// pairs are trees and layers of all sorts, right and wrong.
func pairs() [][2][]api.Item {
	full := numbered(api.MaxItems, api.File)
	p := [][2][]api.Item{
		{nil, nil},
		{deep(), nil},
		{nil, deep()},
		{deep(), list(file("z", "9"), dir("a"), opaque("a/b"), white("a/x"))},
		{full, numbered(api.MaxItems, api.White)},
		{full, full},
		{full, list(file("x", ""))},
	}
	for _, l := range bad() {
		p = append(p, [2][]api.Item{l, l}, [2][]api.Item{deep(), l})
	}
	return p
}

// P2: what is handed in is not written into, nor what stands behind it.
func TestMergeLeavesItsArguments(t *testing.T) {
	for _, p := range pairs() {
		lower, upper := roomy(p[0]), roomy(p[1])
		slices.Reverse(lower)
		slices.Reverse(upper)
		lowerWas, upperWas := slices.Clone(whole(lower)), slices.Clone(whole(upper))
		Merge(lower, upper)
		if !slices.Equal(whole(lower), lowerWas) || !slices.Equal(whole(upper), upperWas) {
			t.Errorf("Merge wrote into %+v or %+v", lower, upper)
		}
	}
}

// P2: what comes out is new memory, its spare room too.
func TestMergeAnswersNewMemory(t *testing.T) {
	for _, p := range pairs() {
		lower, upper := roomy(p[0]), roomy(p[1])
		lowerWas, upperWas := slices.Clone(whole(lower)), slices.Clone(whole(upper))
		first, _ := Merge(lower, upper)
		second, _ := Merge(lower, upper)
		secondWas := slices.Clone(whole(second))
		for i := range whole(first) {
			whole(first)[i] = file("scrawl", "over")
		}
		if !slices.Equal(whole(lower), lowerWas) || !slices.Equal(whole(upper), upperWas) || !slices.Equal(whole(second), secondWas) {
			t.Errorf("an answer to %+v, %+v shares its memory", lower, upper)
		}
	}
}

// P2: nothing that was handed in is kept: what is done to it later does not show.
func TestMergeKeepsNothing(t *testing.T) {
	lower, upper := deep(), list(dir("a"), white("a/x"))
	want, _ := Merge(deep(), list(dir("a"), white("a/x")))
	got, _ := Merge(lower, upper)
	for i := range lower {
		lower[i] = white("gone")
	}
	clear(upper)
	if !slices.Equal(got, want) {
		t.Errorf("the answer became %+v", got)
	}
	expect(t, "again", deep(), list(dir("a"), white("a/x")), want)
}

// P2: the same arguments have the same answer, each time, whatever was asked ahead of it.
func TestMergeAnswersTheSame(t *testing.T) {
	for range 200 {
		expect(t, "many times", deep(), list(dir("a"), opaque("a/b"), file("a/b/n", "7"), file("m", "8"), white("x")),
			list(dir("a"), plain("a/b"), file("a/b/n", "7"), file("a/x", "2"), file("m", "8")))
		refuse(t, "many times", numbered(api.MaxItems, api.File), list(file("x", "")), api.ErrFull)
	}
}

// P1: no call leaves a goroutine behind, whatever it answers.
func TestMergeEndsItsGoroutines(t *testing.T) {
	was := runtime.NumGoroutine()
	for range 20 {
		for _, p := range pairs() {
			Merge(p[0], p[1])
		}
	}
	for range 1000 {
		if runtime.NumGoroutine() <= was {
			return
		}
		time.Sleep(time.Millisecond)
	}
	t.Errorf("%d goroutines, and ahead of it %d", runtime.NumGoroutine(), was)
}

// P1: no text and no number is too wild.
func TestMergeBearsAnything(t *testing.T) {
	paths := []string{"", "/", "a", "a/", "\xff", strings.Repeat("/", 1<<16), strings.Repeat("a/", 1<<16), strings.Repeat("a", 1<<16)}
	numbers := []int{-1 << 63, -1, 0, 1, 2, 3, 4, 511, 512, 1<<63 - 1}
	for _, path := range paths {
		for _, kind := range numbers {
			for _, mode := range numbers {
				l := list(api.Item{Path: path, Kind: kind, Mode: mode, Opaque: mode&1 == 1})
				if got, e := Merge(l, l); e != api.OK && len(got) != 0 {
					t.Errorf("%+v comes with the error %d", got, e)
				}
			}
		}
	}
}
