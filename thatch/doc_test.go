package thatch

import (
	"fmt"
	"reflect"
	"slices"
	"strings"
	"testing"

	"thatch/api"
)

// docOf makes a document whose node 1 is an element of a name that holds markup.
func docOf(t *testing.T, name string, markup string) *Doc {
	t.Helper()
	d := New()
	create(t, d, name)
	setInner(t, d, 1, markup)
	return d
}

func create(t *testing.T, d *Doc, name string) int {
	t.Helper()
	h, e := d.Create(name)
	if e != api.OK {
		t.Fatalf("Create(%q): %d, %d", name, h, e)
	}
	return h
}

func setInner(t *testing.T, d *Doc, h int, markup string) {
	t.Helper()
	if e := d.SetInner(h, markup); e != api.OK {
		t.Fatalf("SetInner(%d, %q): %d", h, markup, e)
	}
}

func inner(t *testing.T, d *Doc, h int) string {
	t.Helper()
	s, e := d.Inner(h)
	if e != api.OK {
		t.Fatalf("Inner(%d): %q, %d", h, s, e)
	}
	return s
}

// dump tells all that can be asked of a document, a line for each node, so that two of them can be compared.
func dump(d *Doc) string {
	var out strings.Builder
	for h := 1; ; h++ {
		n, e := d.Node(h)
		if e != api.OK {
			return out.String()
		}
		kids, _ := d.Kids(h)
		attrs, _ := d.Attrs(h)
		s, _ := d.Inner(h)
		fmt.Fprintf(&out, "%d: %+v %v %q %q\n", h, n, kids, attrs, s)
	}
}

func checkKids(t *testing.T, d *Doc, h int, want ...int) {
	t.Helper()
	if got, e := d.Kids(h); e != api.OK || !slices.Equal(got, want) {
		t.Errorf("Kids(%d): %v, %d, want %v", h, got, e, want)
	}
}

func checkNode(t *testing.T, d *Doc, h int, want api.Node) {
	t.Helper()
	if got, e := d.Node(h); e != api.OK || got != want {
		t.Errorf("Node(%d): %+v, %d, want %+v", h, got, e, want)
	}
}

var noNumbers = []int{0, -1, 1 << 62, -1 << 63, 1<<63 - 1, 1 << 32, 1<<32 + 1, -1<<32 + 1}

// checkNoNode asks for a node that is not there.
func checkNoNode(t *testing.T, d *Doc, h int) {
	t.Helper()
	if n, e := d.Node(h); n != (api.Node{}) || e != api.ErrNode {
		t.Errorf("Node(%d): %+v, %d", h, n, e)
	}
	if l, e := d.Kids(h); len(l) != 0 || e != api.ErrNode {
		t.Errorf("Kids(%d): %v, %d", h, l, e)
	}
	if l, e := d.Attrs(h); len(l) != 0 || e != api.ErrNode {
		t.Errorf("Attrs(%d): %v, %d", h, l, e)
	}
	if s, e := d.Inner(h); s != "" || e != api.ErrNode {
		t.Errorf("Inner(%d): %q, %d", h, s, e)
	}
	for _, markup := range []string{"", "x", strings.Repeat("x", api.MaxText+1)} {
		if e := d.SetInner(h, markup); e != api.ErrNode {
			t.Errorf("SetInner(%d, %d bytes): %d", h, len(markup), e)
		}
	}
}

func TestP1NilDocument(t *testing.T) {
	var d *Doc
	for _, name := range []string{"div", "", "A", "abcdefghi"} {
		if h, e := d.Create(name); h != 0 || e != api.ErrNode {
			t.Errorf("Create(%q) of nil: %d, %d", name, h, e)
		}
	}
	for _, h := range append(noNumbers, 1, 2, 300) {
		checkNoNode(t, d, h)
	}
}

func TestP5NewHasNoNodes(t *testing.T) {
	d := New()
	if d == nil {
		t.Fatal("New: nil")
	}
	for _, h := range append(noNumbers, 1, 2, 300) {
		checkNoNode(t, d, h)
	}
	if New() == d {
		t.Error("New answers one document twice")
	}
}

func TestP5NumbersGoUpAndStay(t *testing.T) {
	d := New()
	for want := 1; want <= 5; want++ {
		if h := create(t, d, "x"); h != want {
			t.Fatalf("Create: %d, want %d", h, want)
		}
	}
	setInner(t, d, 2, "<p>a<!--b-->")
	if h := create(t, d, "y"); h != 9 {
		t.Errorf("Create behind SetInner: %d, want 9", h)
	}
	setInner(t, d, 2, "c")
	if h := create(t, d, "z"); h != 11 {
		t.Errorf("Create behind a second SetInner: %d, want 11", h)
	}
	for h, want := range []api.Node{
		{Kind: api.Element, Name: "x"}, {Kind: api.Element, Name: "x"}, {Kind: api.Element, Name: "x"}, {Kind: api.Element, Name: "x"}, {Kind: api.Element, Name: "x"},
		{Kind: api.Element, Name: "p"}, {Kind: api.Text, Data: "a", Parent: 6}, {Kind: api.Comment, Data: "b", Parent: 6},
		{Kind: api.Element, Name: "y"}, {Kind: api.Text, Data: "c", Parent: 2}, {Kind: api.Element, Name: "z"},
	} {
		checkNode(t, d, h+1, want)
	}
	for _, h := range append(noNumbers, 12, 300) {
		checkNoNode(t, d, h)
	}
}

func TestP6CreateNames(t *testing.T) {
	d := New()
	for _, name := range []string{"a", "z", "zz", "div", "br", "code", "table", "abcdefgh", "zzzzzzzz"} {
		h := create(t, d, name)
		checkNode(t, d, h, api.Node{Kind: api.Element, Name: name})
		checkKids(t, d, h)
		if l, e := d.Attrs(h); len(l) != 0 || e != api.OK {
			t.Errorf("Attrs of a new element: %v, %d", l, e)
		}
	}
	before := dump(d)
	for _, name := range []string{"", "A", "aB", "Z", "h1", "a b", " a", "a ", "a\n", "a-", "a/", "<a", "a>", "`", "{", "\u00e9", "a\u00e9", "a\x00", "\xff", "\x00", "abcdefghi", strings.Repeat("a", 1000)} {
		if h, e := d.Create(name); h != 0 || e != api.ErrName {
			t.Errorf("Create(%q): %d, %d, want ErrName", name, h, e)
		}
	}
	if got := dump(d); got != before {
		t.Errorf("a refused Create has changed the document:\n%swas\n%s", got, before)
	}
}

func TestP6CreateEachByte(t *testing.T) {
	for b := range 256 {
		name := "a" + string([]byte{byte(b)})
		_, e := New().Create(name)
		if isLetter := 'a' <= b && b <= 'z'; (e == api.OK) != isLetter {
			t.Errorf("Create(%q): %d", name, e)
		}
	}
}

func TestP6CreateFull(t *testing.T) {
	d := New()
	for want := 1; want <= api.MaxNodes; want++ {
		if h := create(t, d, "x"); h != want {
			t.Fatalf("Create: %d, want %d", h, want)
		}
	}
	before := dump(d)
	if h, e := d.Create("x"); h != 0 || e != api.ErrFull {
		t.Errorf("Create in a full document: %d, %d", h, e)
	}
	for _, name := range []string{"", "A", "abcdefghi"} {
		if h, e := d.Create(name); h != 0 || e != api.ErrName {
			t.Errorf("Create(%q) in a full document: %d, %d, want ErrName", name, h, e)
		}
	}
	if got := dump(d); got != before {
		t.Error("a refused Create has changed the document")
	}
	checkNoNode(t, d, api.MaxNodes+1)
}

func TestP7NodesOfEachKind(t *testing.T) {
	d := docOf(t, "div", "<p a=1 C='&lt;' d>x&lt;<!--y&lt;--><br e></p>z")
	for h, want := range []api.Node{
		{Kind: api.Element, Name: "div"},
		{Kind: api.Element, Name: "p", Parent: 1},
		{Kind: api.Text, Data: "x<", Parent: 2},
		{Kind: api.Comment, Data: "y&lt;", Parent: 2},
		{Kind: api.Element, Name: "br", Parent: 2},
		{Kind: api.Text, Data: "z", Parent: 1},
	} {
		checkNode(t, d, h+1, want)
	}
	checkKids(t, d, 1, 2, 6)
	checkKids(t, d, 2, 3, 4, 5)
	for _, leaf := range []int{3, 4, 5, 6} {
		checkKids(t, d, leaf)
	}
	for h, want := range map[int][]api.Attr{1: nil, 2: {{Name: "a", Value: "1"}, {Name: "c", Value: "<"}, {Name: "d"}}, 5: {{Name: "e"}}} {
		if l, e := d.Attrs(h); e != api.OK || !slices.Equal(l, want) {
			t.Errorf("Attrs(%d): %q, %d, want %q", h, l, e, want)
		}
	}
	for _, h := range []int{3, 4, 6} {
		if l, e := d.Attrs(h); len(l) != 0 || e != api.ErrKind {
			t.Errorf("Attrs(%d) of no element: %q, %d", h, l, e)
		}
	}
	for _, h := range append(noNumbers, 7, 8) {
		checkNoNode(t, d, h)
	}
}

func TestP2DocumentsAreApart(t *testing.T) {
	a, b := docOf(t, "div", "<p a=1>x<b>y"), docOf(t, "div", "<p a=1>x<b>y")
	before := dump(b)
	create(t, a, "x")
	setInner(t, a, 1, "z")
	setInner(t, a, 2, "<i>")
	if got := dump(b); got != before {
		t.Errorf("calls of one document have changed another:\n%swas\n%s", got, before)
	}
}

// TestP2AnswersShareNothing writes into answers, spare room too: the document and other answers stay as they were.
func TestP2AnswersShareNothing(t *testing.T) {
	d := docOf(t, "div", "<p><b a=1 c=2 e=3>x<p>y<p>z<p><p>")
	before := dump(d)
	for h := 1; ; h++ {
		kids, e := d.Kids(h)
		if e != api.OK {
			break
		}
		attrs, _ := d.Attrs(h)
		otherKids, _ := d.Kids(h)
		otherAttrs, _ := d.Attrs(h)
		wantKids, wantAttrs := fmt.Sprint(otherKids[:cap(otherKids)]), fmt.Sprint(otherAttrs[:cap(otherAttrs)])
		for i := range kids[:cap(kids)] {
			kids[:cap(kids)][i] = -7
		}
		for i := range attrs[:cap(attrs)] {
			attrs[:cap(attrs)][i] = api.Attr{Name: "written", Value: "over"}
		}
		if got := fmt.Sprint(otherKids[:cap(otherKids)]); got != wantKids {
			t.Errorf("two answers of Kids(%d) share memory: %s, want %s", h, got, wantKids)
		}
		if got := fmt.Sprint(otherAttrs[:cap(otherAttrs)]); got != wantAttrs {
			t.Errorf("two answers of Attrs(%d) share memory: %s, want %s", h, got, wantAttrs)
		}
	}
	if got := dump(d); got != before {
		t.Errorf("what was written into answers is in the document:\n%swas\n%s", got, before)
	}
	kids, _ := d.Kids(1)
	kept := slices.Clone(kids[:cap(kids)])
	setInner(t, d, 1, "<x><y></y></x><z>")
	create(t, d, "w")
	if !reflect.DeepEqual(kids[:cap(kids)], kept) {
		t.Errorf("a later call has changed an answer: %v, was %v", kids[:cap(kids)], kept)
	}
}
