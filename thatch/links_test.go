package thatch

import (
	"strings"
	"testing"

	"thatch/api"
)

// docWith makes a document with elements of these names, each a child of none.
func docWith(t *testing.T, names ...string) *Doc {
	t.Helper()
	d := New()
	for _, name := range names {
		create(t, d, name)
	}
	return d
}

func insert(t *testing.T, d *Doc, parent int, child int, before int) {
	t.Helper()
	if e := d.Insert(parent, child, before); e != api.OK {
		t.Fatalf("Insert(%d, %d, %d): %d", parent, child, before, e)
	}
}

func remove(t *testing.T, d *Doc, h int) {
	t.Helper()
	if e := d.Remove(h); e != api.OK {
		t.Fatalf("Remove(%d): %d", h, e)
	}
}

// checkNoInsert makes an Insert that must be refused without a change.
func checkNoInsert(t *testing.T, d *Doc, parent int, child int, before int, want api.Errno) {
	t.Helper()
	was := dump(d)
	if e := d.Insert(parent, child, before); e != want {
		t.Errorf("Insert(%d, %d, %d): %d, want %d", parent, child, before, e, want)
	}
	if got := dump(d); got != was {
		t.Errorf("a refused Insert(%d, %d, %d) has changed the document:\n%swas\n%s", parent, child, before, got, was)
	}
}

func TestP8InsertPlaces(t *testing.T) {
	d := docWith(t, "div", "a", "b", "c", "d")
	for _, c := range []struct {
		child, before int
		want          []int
	}{
		{2, 0, []int{2}},
		{3, 0, []int{2, 3}},
		{4, 2, []int{4, 2, 3}},
		{5, 3, []int{4, 2, 5, 3}},
		{4, 4, []int{4, 2, 5, 3}}, // stays
		{3, 3, []int{4, 2, 5, 3}},
		{2, 2, []int{4, 2, 5, 3}},
		{4, 2, []int{4, 2, 5, 3}}, // is there
		{3, 0, []int{4, 2, 5, 3}},
		{4, 0, []int{2, 5, 3, 4}}, // from the first place to the last
		{4, 2, []int{4, 2, 5, 3}}, // and back
		{4, 5, []int{2, 4, 5, 3}}, // on by one
		{4, 3, []int{2, 5, 4, 3}},
		{3, 4, []int{2, 5, 3, 4}}, // back by one
		{5, 0, []int{2, 3, 4, 5}},
	} {
		insert(t, d, 1, c.child, c.before)
		checkKids(t, d, 1, c.want...)
		checkNode(t, d, c.child, api.Node{Kind: api.Element, Name: string(rune('a' + c.child - 2)), Parent: 1})
		checkLinks(t, d)
	}
}

func TestP8InsertTakesFromElsewhere(t *testing.T) {
	d := docWith(t, "div", "p", "x", "y")
	text, _ := d.Text("t<")
	comment, _ := d.Comment("c")
	insert(t, d, 1, 2, 0)
	insert(t, d, 2, text, 0)
	insert(t, d, 2, comment, text)
	insert(t, d, 2, 3, text)
	checkKids(t, d, 2, comment, 3, text)
	insert(t, d, 3, text, 0)
	checkKids(t, d, 2, comment, 3)
	checkKids(t, d, 3, text)
	checkNode(t, d, text, api.Node{Kind: api.Text, Data: "t<", Parent: 3})
	insert(t, d, 4, 3, 0)
	checkKids(t, d, 2, comment)
	checkKids(t, d, 3, text)
	insert(t, d, 1, 4, 2)
	insert(t, d, 1, comment, 2)
	checkKids(t, d, 2)
	checkKids(t, d, 1, 4, comment, 2)
	if got, want := inner(t, d, 1), "<y><x>t&lt;</x></y><!--c--><p></p>"; got != want {
		t.Errorf("Inner: %q, want %q", got, want)
	}
	insert(t, d, 3, 2, text) // an uncle
	insert(t, d, 1, 3, 0)    // from below to above
	insert(t, d, 2, 4, 0)    // what was above goes below
	insert(t, d, 4, text, 0) // from above to below
	checkKids(t, d, 1, comment, 3)
	if got, want := inner(t, d, 1), "<!--c--><x><p><y>t&lt;</y></p></x>"; got != want {
		t.Errorf("Inner: %q, want %q", got, want)
	}
	checkLinks(t, d)
}

// TestP8InsertAnywhere: what markup may not put in, Insert may; only void elements hold nothing.
func TestP8InsertAnywhere(t *testing.T) {
	for _, parent := range []string{"p", "ul", "li", "div", "table", "tr", "td", "b", "i", "u", "x", "code"} {
		d := docWith(t, parent, "p", "table", "td", "br", "code")
		text, _ := d.Text("&")
		comment, _ := d.Comment("&")
		want := "<p></p><table></table><td></td><br><code></code>&amp;<!--&-->"
		if parent == "code" {
			want = strings.Replace(want, "&amp;", "&", 1)
		}
		for h := 2; h <= comment; h++ {
			insert(t, d, 1, h, 0)
		}
		if got := inner(t, d, 1); got != want {
			t.Errorf("%s: %q, want %q", parent, got, want)
		}
		insert(t, d, 2, text, 0)
		insert(t, d, 6, 2, 0) // the text is a child of a p in a code
		if got, want := inner(t, d, 6), "<p>&amp;</p>"; got != want {
			t.Errorf("%s: a code's inner: %q, want %q", parent, got, want)
		}
	}
}

func TestP8InsertRefused(t *testing.T) {
	d := docWith(t, "div", "p", "x", "y", "br", "hr", "img")
	text, _ := d.Text("t")
	comment, _ := d.Comment("c")
	insert(t, d, 1, 2, 0)
	insert(t, d, 2, 3, 0)
	insert(t, d, 2, text, 0)
	insert(t, d, 3, comment, 0)
	for _, h := range append(noNumbers, 10, 300, 301) {
		for _, other := range []int{1, 5, text, h} {
			for _, before := range []int{0, 2, -1, h} {
				checkNoInsert(t, d, h, other, before, api.ErrNode)
				checkNoInsert(t, d, other, h, before, api.ErrNode)
			}
		}
		if h != 0 {
			checkNoInsert(t, d, 1, 4, h, api.ErrChild)
		}
	}
	for _, parent := range []int{5, 6, 7, text, comment} {
		for _, child := range []int{1, 2, 4, text, parent} {
			for _, before := range []int{0, 2, -1, parent} {
				checkNoInsert(t, d, parent, child, before, api.ErrKind)
			}
		}
	}
	for _, c := range [][2]int{{1, 1}, {2, 2}, {2, 1}, {3, 1}, {3, 2}, {3, 3}, {4, 4}} {
		for _, before := range []int{0, 1, 2, 3, text, comment, -1, 99} {
			checkNoInsert(t, d, c[0], c[1], before, api.ErrLoop)
		}
	}
	for _, before := range []int{1, 3, 4, text, comment, 10, -1} {
		checkNoInsert(t, d, 1, 4, before, api.ErrChild)
		checkNoInsert(t, d, 1, 2, before, api.ErrChild)
	}
	checkNoInsert(t, d, 1, 3, 3, api.ErrChild) // it is a child, but of another
	checkNoInsert(t, d, 1, 4, 4, api.ErrChild) // of none
	checkNoInsert(t, d, 4, 1, 2, api.ErrChild)
	checkLinks(t, d)
}

func TestP8RefusalsFollowTheTree(t *testing.T) {
	d := docWith(t, "a", "b", "c")
	insert(t, d, 1, 2, 0)
	insert(t, d, 2, 3, 0)
	checkNoInsert(t, d, 3, 1, 0, api.ErrLoop)
	remove(t, d, 2)
	insert(t, d, 3, 1, 0)
	checkNoInsert(t, d, 1, 2, 0, api.ErrLoop)
	setInner(t, d, 3, "")
	insert(t, d, 1, 2, 0)
	checkNoInsert(t, d, 3, 1, 2, api.ErrLoop)
	checkLinks(t, d)
}

func TestP8Remove(t *testing.T) {
	d := docOf(t, "div", "a<p>b<i>c</i></p><!--d--><br>")
	for _, h := range []int{3, 1} {
		remove(t, d, h)
		checkKids(t, d, 1, 2, 7, 8)
		checkKids(t, d, 3, 4, 5)
		checkNode(t, d, 3, api.Node{Kind: api.Element, Name: "p"})
		checkNode(t, d, 4, api.Node{Kind: api.Text, Data: "b", Parent: 3})
	}
	remove(t, d, 3)
	remove(t, d, 2)
	checkKids(t, d, 1, 7, 8)
	checkNode(t, d, 2, api.Node{Kind: api.Text, Data: "a"})
	remove(t, d, 8)
	checkKids(t, d, 1, 7)
	remove(t, d, 7)
	checkKids(t, d, 1)
	if got, want := inner(t, d, 3), "b<i>c</i>"; got != want {
		t.Errorf("what was taken out: %q, want %q", got, want)
	}
	insert(t, d, 1, 3, 0)
	if got, want := inner(t, d, 1), "<p>b<i>c</i></p>"; got != want {
		t.Errorf("put in again: %q, want %q", got, want)
	}
	if h := create(t, d, "x"); h != 9 {
		t.Errorf("Create behind Remove: %d", h)
	}
	was := dump(d)
	for _, h := range append(noNumbers, 10, 300) {
		if e := d.Remove(h); e != api.ErrNode {
			t.Errorf("Remove(%d): %d", h, e)
		}
	}
	if dump(d) != was {
		t.Error("a refused Remove has changed the document")
	}
	checkLinks(t, d)
}

// TestP8TreesThatWereRead moves what SetInner has made, and reads into what Insert has built.
func TestP8TreesThatWereRead(t *testing.T) {
	d := docOf(t, "div", "<p>a<p>b")
	other := create(t, d, "x")
	insert(t, d, other, 2, 0)
	insert(t, d, 2, 5, 3)
	checkKids(t, d, 1, 4)
	checkKids(t, d, 2, 5, 3)
	setInner(t, d, other, "<i>c")
	checkKids(t, d, other, 7)
	checkNode(t, d, 2, api.Node{Kind: api.Element, Name: "p"})
	insert(t, d, 7, 2, 8)
	if got, want := inner(t, d, other), "<i><p>ba</p>c</i>"; got != want {
		t.Errorf("Inner: %q, want %q", got, want)
	}
	setInner(t, d, 1, "e")
	checkNode(t, d, 4, api.Node{Kind: api.Element, Name: "p"})
	checkLinks(t, d)
}

func TestP14Deep(t *testing.T) {
	d := New()
	create(t, d, "x")
	for h := 2; h <= api.MaxNodes; h++ {
		create(t, d, "x")
		insert(t, d, h, h-1, 0)
	}
	was := dump(d)
	for h := 1; h <= api.MaxNodes; h++ {
		if e := d.Insert(1, h, 0); e != api.ErrLoop {
			t.Errorf("Insert(1, %d, 0): %d", h, e)
		}
	}
	if dump(d) != was {
		t.Error("a refused Insert has changed the document")
	}
	if got, want := inner(t, d, api.MaxNodes), strings.Repeat("<x>", api.MaxNodes-1)+strings.Repeat("</x>", api.MaxNodes-1); got != want {
		t.Errorf("299 elements in each other: %q", got)
	}
	checkLinks(t, d)
	remove(t, d, 150)
	insert(t, d, 1, api.MaxNodes, 0)
	checkNoInsert(t, d, 151, 150, 0, api.ErrLoop)
	checkLinks(t, d)
}
