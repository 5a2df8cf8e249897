package thatch

import (
	"runtime"
	"slices"
	"strings"
	"testing"
	"time"

	"thatch/api"
)

// checkInners holds an answer of Inners against answers of Inner.
func checkInners(t *testing.T, d *Doc, l ...int) {
	t.Helper()
	var want []string
	for _, h := range l {
		want = append(want, inner(t, d, h))
	}
	if got, e := d.Inners(l...); e != api.OK || !slices.Equal(got, want) {
		t.Errorf("Inners(%v): %q, %d, want %q", l, got, e, want)
	}
}

func TestP10Inners(t *testing.T) {
	d := docOf(t, "div", "<p a='\"'>x&lt;<!--y&lt;--><br></p>z<code>&lt;</code>")
	for range 200 {
		got, e := d.Inners(1, 6, 2, 5, 4, 3, 7, 8, 3, 1)
		want := []string{"<p a=\"&quot;\">x&lt;<!--y&lt;--><br></p>z<code>&lt;</code>", "z", "x&lt;<!--y&lt;--><br>", "", "y&lt;", "x<", "&lt;", "&lt;", "x<", "<p a=\"&quot;\">x&lt;<!--y&lt;--><br></p>z<code>&lt;</code>"}
		if e != api.OK || !slices.Equal(got, want) {
			t.Fatalf("Inners: %q, %d, want %q", got, e, want)
		}
	}
	for h := 1; h <= 8; h++ {
		checkInners(t, d, h)
		checkInners(t, d, h, h, h)
	}
	for _, none := range [][]int{nil, {}} {
		if l, e := d.Inners(none...); len(l) != 0 || e != api.OK {
			t.Errorf("Inners of no nodes: %q, %d", l, e)
		}
		if l, e := New().Inners(none...); len(l) != 0 || e != api.OK {
			t.Errorf("Inners of no nodes, of a new document: %q, %d", l, e)
		}
	}
}

func TestP10InnersRefused(t *testing.T) {
	d := docOf(t, "div", "x<p>y")
	was := dump(d)
	for _, h := range append(noNumbers, 5, 300, 301) {
		long := slices.Repeat([]int{1, 2, 3, 4}, 500)
		for _, at := range []int{0, 1, 1000, 1999} {
			l := slices.Clone(long)
			l[at] = h
			if got, e := d.Inners(l...); len(got) != 0 || e != api.ErrNode {
				t.Errorf("Inners with %d at %d: %d answers, %d", h, at, len(got), e)
			}
		}
	}
	if dump(d) != was {
		t.Error("Inners has changed the document")
	}
}

// TestP10InnersOfManyNodes asks for more nodes than there may be, in lists of all sizes about those at which the goroutines are few or many.
func TestP10InnersOfManyNodes(t *testing.T) {
	d := New()
	for range api.MaxNodes / 2 {
		h := create(t, d, "x")
		setInner(t, d, h, strings.Repeat("&", h))
	}
	var l []int
	for i := range 1100 {
		l = append(l, i*7%api.MaxNodes+1)
		if i < 20 || i%37 == 0 || i%256 < 3 || i%256 > 253 {
			checkInners(t, d, l...)
		}
	}
	all := slices.Repeat(l, 100)
	got, e := d.Inners(all...)
	if e != api.OK || len(got) != len(all) {
		t.Fatalf("Inners of %d nodes: %d answers, %d", len(all), len(got), e)
	}
	for i, h := range all {
		if got[i] != inner(t, d, h) {
			t.Fatalf("Inners of %d nodes: answer %d: %q", len(all), i, got[i])
		}
	}
}

func TestP10InnersLeavesNoGoroutine(t *testing.T) {
	d := docOf(t, "div", "<p>x")
	before := runtime.NumGoroutine()
	for range 50 {
		checkInners(t, d, slices.Repeat([]int{1, 2, 3}, 100)...)
	}
	// One that has said that it is done may be counted for a moment longer.
	for range 100 {
		if runtime.NumGoroutine() <= before {
			return
		}
		time.Sleep(10 * time.Millisecond)
	}
	t.Errorf("%d goroutines, were %d", runtime.NumGoroutine(), before)
}

func TestP2InnersKeepsNoList(t *testing.T) {
	d := docOf(t, "div", "<p>x")
	room := []int{3, 2, 1, 7, 7, 7}
	first, _ := d.Inners(room[:3]...)
	if !slices.Equal(room, []int{3, 2, 1, 7, 7, 7}) {
		t.Errorf("Inners has written into its list: %v", room)
	}
	second, _ := d.Inners(3, 2, 1)
	want := []string{"x", "x", "<p>x</p>"}
	for i := range room {
		room[i] = -1
	}
	for i := range first[:cap(first)] {
		first[:cap(first)][i] = "written over"
	}
	if !slices.Equal(second, want) {
		t.Errorf("two answers share memory: %q", second)
	}
	setInner(t, d, 1, "z")
	if !slices.Equal(second, want) {
		t.Errorf("a later call has changed an answer: %q", second)
	}
	if third, e := d.Inners(3, 2, 1); e != api.OK || !slices.Equal(third, []string{"x", "x", "z"}) {
		t.Errorf("Inners, asked again: %q, %d", third, e)
	}
}
