package thatch

import (
	"fmt"
	"slices"
	"strings"
	"testing"
	"unsafe"

	"thatch/api"
)

// docOf makes a document whose node 1 is an element of a name that holds markup.
func docOf(t *testing.T, name string, markup string) *Doc {
	t.Helper()
	d := New()
	create(t, d, name)
	setInner(t, d, 1, markup)
	return d
}

func create(t *testing.T, d *Doc, name string) int {
	t.Helper()
	h, e := d.Create(name)
	if e != api.OK {
		t.Fatalf("Create(%q): %d, %d", name, h, e)
	}
	return h
}

func setInner(t *testing.T, d *Doc, h int, markup string) {
	t.Helper()
	if e := d.SetInner(h, markup); e != api.OK {
		t.Fatalf("SetInner(%d, %q): %d", h, markup, e)
	}
}

func inner(t *testing.T, d *Doc, h int) string {
	t.Helper()
	s, e := d.Inner(h)
	if e != api.OK {
		t.Fatalf("Inner(%d): %q, %d", h, s, e)
	}
	return s
}

// dump tells all that can be asked of a document, a line for each node, so that two of them can be compared.
func dump(d *Doc) string {
	var out strings.Builder
	for h := 1; ; h++ {
		n, e := d.Node(h)
		if e != api.OK {
			return out.String()
		}
		kids, _ := d.Kids(h)
		attrs, _ := d.Attrs(h)
		s, _ := d.Inner(h)
		fmt.Fprintf(&out, "%d: %+v %v %q %q\n", h, n, kids, attrs, s)
	}
}

// size tells how many nodes there are.
func size(d *Doc) int {
	for h := 1; ; h++ {
		if _, e := d.Node(h); e != api.OK {
			return h - 1
		}
	}
}

func checkKids(t *testing.T, d *Doc, h int, want ...int) {
	t.Helper()
	if got, e := d.Kids(h); e != api.OK || !slices.Equal(got, want) {
		t.Errorf("Kids(%d): %v, %d, want %v", h, got, e, want)
	}
}

func checkNode(t *testing.T, d *Doc, h int, want api.Node) {
	t.Helper()
	if got, e := d.Node(h); e != api.OK || got != want {
		t.Errorf("Node(%d): %+v, %d, want %+v", h, got, e, want)
	}
}

var noNumbers = []int{0, -1, 1 << 62, -1 << 63, 1<<63 - 1, 1 << 32, 1<<32 + 1, -1<<32 + 1}

// checkNoNode asks for a node that is not there.
func checkNoNode(t *testing.T, d *Doc, h int) {
	t.Helper()
	if n, e := d.Node(h); n != (api.Node{}) || e != api.ErrNode {
		t.Errorf("Node(%d): %+v, %d", h, n, e)
	}
	if l, e := d.Kids(h); len(l) != 0 || e != api.ErrNode {
		t.Errorf("Kids(%d): %v, %d", h, l, e)
	}
	if l, e := d.Attrs(h); len(l) != 0 || e != api.ErrNode {
		t.Errorf("Attrs(%d): %v, %d", h, l, e)
	}
	if s, e := d.Inner(h); s != "" || e != api.ErrNode {
		t.Errorf("Inner(%d): %q, %d", h, s, e)
	}
	for _, l := range [][]int{{h}, {h, h}, {1, h}, {h, 1}, {1, h, 1}} {
		if got, e := d.Inners(l...); len(got) != 0 || e != api.ErrNode {
			t.Errorf("Inners(%v): %q, %d", l, got, e)
		}
	}
	for _, text := range []string{"", "x", strings.Repeat("x", api.MaxText+1)} {
		if e := d.SetInner(h, text); e != api.ErrNode {
			t.Errorf("SetInner(%d, %d bytes): %d", h, len(text), e)
		}
		if e := d.SetAttr(h, text, text); e != api.ErrNode {
			t.Errorf("SetAttr(%d, %d bytes): %d", h, len(text), e)
		}
	}
	for _, c := range [][3]int{{h, 1, 0}, {1, h, 0}, {h, h, 0}, {h, h, h}, {h, 1, 1}, {1, h, h}, {1, h, -1}} {
		if e := d.Insert(c[0], c[1], c[2]); e != api.ErrNode {
			t.Errorf("Insert(%v): %d", c, e)
		}
	}
	if e := d.Remove(h); e != api.ErrNode {
		t.Errorf("Remove(%d): %d", h, e)
	}
}

func TestP1NilDocument(t *testing.T) {
	var d *Doc
	for _, s := range []string{"div", "", "A", "abcdefghi", strings.Repeat("x", api.MaxText+1)} {
		if h, e := d.Create(s); h != 0 || e != api.ErrNode {
			t.Errorf("Create(%q) of nil: %d, %d", s, h, e)
		}
		if h, e := d.Text(s); h != 0 || e != api.ErrNode {
			t.Errorf("Text(%q) of nil: %d, %d", s, h, e)
		}
		if h, e := d.Comment(s); h != 0 || e != api.ErrNode {
			t.Errorf("Comment(%q) of nil: %d, %d", s, h, e)
		}
	}
	for _, none := range [][]int{nil, {}} {
		if l, e := d.Inners(none...); len(l) != 0 || e != api.ErrNode {
			t.Errorf("Inners of no nodes of nil: %q, %d", l, e)
		}
	}
	for _, h := range append(noNumbers, 1, 2, 300) {
		checkNoNode(t, d, h)
	}
}

func TestP5NewHasNoNodes(t *testing.T) {
	d := New()
	if d == nil {
		t.Fatal("New: nil")
	}
	for _, h := range append(noNumbers, 1, 2, 300) {
		checkNoNode(t, d, h)
	}
	if New() == d {
		t.Error("New answers one document twice")
	}
}

func TestP5NumbersGoUpAndStay(t *testing.T) {
	d := New()
	for want := 1; want <= 5; want++ {
		if h := create(t, d, "x"); h != want {
			t.Fatalf("Create: %d, want %d", h, want)
		}
	}
	setInner(t, d, 2, "<p>a<!--b-->")
	if h := create(t, d, "y"); h != 9 {
		t.Errorf("Create behind SetInner: %d, want 9", h)
	}
	setInner(t, d, 2, "c")
	if h := create(t, d, "z"); h != 11 {
		t.Errorf("Create behind a second SetInner: %d, want 11", h)
	}
	for h, want := range []api.Node{
		{Kind: api.Element, Name: "x"}, {Kind: api.Element, Name: "x"}, {Kind: api.Element, Name: "x"}, {Kind: api.Element, Name: "x"}, {Kind: api.Element, Name: "x"},
		{Kind: api.Element, Name: "p"}, {Kind: api.Text, Data: "a", Parent: 6}, {Kind: api.Comment, Data: "b", Parent: 6},
		{Kind: api.Element, Name: "y"}, {Kind: api.Text, Data: "c", Parent: 2}, {Kind: api.Element, Name: "z"},
	} {
		checkNode(t, d, h+1, want)
	}
	for _, h := range append(noNumbers, 12, 300) {
		checkNoNode(t, d, h)
	}
}

func TestP6CreateNames(t *testing.T) {
	d := New()
	for _, name := range []string{"a", "z", "zz", "div", "br", "code", "table", "abcdefgh", "zzzzzzzz"} {
		h := create(t, d, name)
		checkNode(t, d, h, api.Node{Kind: api.Element, Name: name})
		checkKids(t, d, h)
		if l, e := d.Attrs(h); len(l) != 0 || e != api.OK {
			t.Errorf("Attrs of a new element: %v, %d", l, e)
		}
	}
	before := dump(d)
	for _, name := range []string{"", "A", "aB", "Z", "h1", "a b", " a", "a ", "a\n", "a-", "a/", "<a", "a>", "`", "{", "\u00e9", "a\u00e9", "a\x00", "\xff", "\x00", "abcdefghi", strings.Repeat("a", 1000)} {
		if h, e := d.Create(name); h != 0 || e != api.ErrName {
			t.Errorf("Create(%q): %d, %d, want ErrName", name, h, e)
		}
	}
	if got := dump(d); got != before {
		t.Errorf("a refused Create has changed the document:\n%swas\n%s", got, before)
	}
}

func TestP6CreateEachByte(t *testing.T) {
	for b := range 256 {
		name := "a" + string([]byte{byte(b)})
		_, e := New().Create(name)
		if isLetter := 'a' <= b && b <= 'z'; (e == api.OK) != isLetter {
			t.Errorf("Create(%q): %d", name, e)
		}
	}
}

func TestP6CreateFull(t *testing.T) {
	d := New()
	for want := 1; want <= api.MaxNodes; want++ {
		if h := create(t, d, "x"); h != want {
			t.Fatalf("Create: %d, want %d", h, want)
		}
	}
	before := dump(d)
	if h, e := d.Create("x"); h != 0 || e != api.ErrFull {
		t.Errorf("Create in a full document: %d, %d", h, e)
	}
	for _, name := range []string{"", "A", "abcdefghi"} {
		if h, e := d.Create(name); h != 0 || e != api.ErrName {
			t.Errorf("Create(%q) in a full document: %d, %d, want ErrName", name, h, e)
		}
	}
	if got := dump(d); got != before {
		t.Error("a refused Create has changed the document")
	}
	checkNoNode(t, d, api.MaxNodes+1)
}

// makers are the two calls that make a node of data.
var makers = []struct {
	name string
	kind api.Kind
	call func(*Doc, string) (int, api.Errno)
}{
	{"Text", api.Text, (*Doc).Text},
	{"Comment", api.Comment, (*Doc).Comment},
}

func TestP6TextsAndComments(t *testing.T) {
	for _, m := range makers {
		d := New()
		for i, c := range []struct{ data, want string }{
			{"x", "x"},
			{"", ""},
			{"a b\tc\nd", "a b\tc\nd"},
			{"t<\r", "t<\n"},
			{"\r\n\r\r\n", "\n\n\n"},
			{"\x00\xff\xe2\x82", "\ufffd\ufffd\ufffd\ufffd"},
			{"&lt;<b>-->\u00a0", "&lt;<b>-->\u00a0"},
			{strings.Repeat("x", api.MaxText), strings.Repeat("x", api.MaxText)},
			{strings.Repeat("\r\n", api.MaxText/2), strings.Repeat("\n", api.MaxText/2)},
			{strings.Repeat("\xff", api.MaxText), strings.Repeat("\ufffd", api.MaxText)},
		} {
			if h, e := m.call(d, c.data); h != i+1 || e != api.OK {
				t.Fatalf("%s(%q): %d, %d, want %d", m.name, c.data, h, e, i+1)
			}
			checkNode(t, d, i+1, api.Node{Kind: m.kind, Data: c.want})
			checkKids(t, d, i+1)
			if got := inner(t, d, i+1); got != c.want {
				t.Errorf("Inner of %s(%q): %q", m.name, c.data, got)
			}
			if l, e := d.Attrs(i + 1); len(l) != 0 || e != api.ErrKind {
				t.Errorf("Attrs of %s(%q): %q, %d", m.name, c.data, l, e)
			}
		}
		if h := create(t, d, "x"); h != 11 {
			t.Errorf("Create behind ten of %s: %d", m.name, h)
		}
	}
}

func TestP6TextsAndCommentsRefused(t *testing.T) {
	tooLong := []string{strings.Repeat("x", api.MaxText+1), strings.Repeat("\r\n", api.MaxText/2) + "x", strings.Repeat("\u00e9", api.MaxText/2) + "\xff", strings.Repeat("x", 1<<20)}
	for _, m := range makers {
		d := New()
		refuse := func(data string, want api.Errno) {
			t.Helper()
			before := dump(d)
			if h, e := m.call(d, data); h != 0 || e != want {
				t.Errorf("%s of %d bytes: %d, %d, want %d", m.name, len(data), h, e, want)
			}
			if dump(d) != before {
				t.Errorf("a refused %s has changed the document", m.name)
			}
		}
		for _, data := range tooLong {
			refuse(data, api.ErrLong)
		}
		for want := 1; want <= api.MaxNodes; want++ {
			if h, e := m.call(d, "x"); h != want || e != api.OK {
				t.Fatalf("%s: %d, %d, want %d", m.name, h, e, want)
			}
		}
		refuse("x", api.ErrFull)
		refuse("", api.ErrFull)
		refuse(strings.Repeat("x", api.MaxText), api.ErrFull)
		for _, data := range tooLong {
			refuse(data, api.ErrLong)
		}
	}
}

func TestP7NodesOfEachKind(t *testing.T) {
	d := docOf(t, "div", "<p a=1 C='&lt;' d>x&lt;<!--y&lt;--><br e></p>z")
	for h, want := range []api.Node{
		{Kind: api.Element, Name: "div"},
		{Kind: api.Element, Name: "p", Parent: 1},
		{Kind: api.Text, Data: "x<", Parent: 2},
		{Kind: api.Comment, Data: "y&lt;", Parent: 2},
		{Kind: api.Element, Name: "br", Parent: 2},
		{Kind: api.Text, Data: "z", Parent: 1},
	} {
		checkNode(t, d, h+1, want)
	}
	checkKids(t, d, 1, 2, 6)
	checkKids(t, d, 2, 3, 4, 5)
	for _, leaf := range []int{3, 4, 5, 6} {
		checkKids(t, d, leaf)
	}
	for h, want := range map[int][]api.Attr{1: nil, 2: {{Name: "a", Value: "1"}, {Name: "c", Value: "<"}, {Name: "d"}}, 5: {{Name: "e"}}} {
		if l, e := d.Attrs(h); e != api.OK || !slices.Equal(l, want) {
			t.Errorf("Attrs(%d): %q, %d, want %q", h, l, e, want)
		}
	}
	for _, h := range []int{3, 4, 6} {
		if l, e := d.Attrs(h); len(l) != 0 || e != api.ErrKind {
			t.Errorf("Attrs(%d) of no element: %q, %d", h, l, e)
		}
	}
	for _, h := range append(noNumbers, 7, 8) {
		checkNoNode(t, d, h)
	}
}

func TestP2DocumentsAreApart(t *testing.T) {
	a, b := docOf(t, "div", "<p a=1>x<b>y"), docOf(t, "div", "<p a=1>x<b>y")
	before := dump(b)
	create(t, a, "x")
	setInner(t, a, 1, "z")
	setInner(t, a, 2, "<i>")
	setAttr(t, a, 2, "a", "2")
	setAttr(t, a, 4, "c", "3")
	insert(t, a, 1, 2, 0)
	insert(t, a, 2, 4, 0)
	remove(t, a, 4)
	a.Text("x")
	a.Comment("y")
	a.Inners(1, 2, 3, 4)
	if got := dump(b); got != before {
		t.Errorf("calls of one document have changed another:\n%swas\n%s", got, before)
	}
}

// TestP2AnswersShareNothing writes into answers, spare room too: the document and other answers stay as they were.
func TestP2AnswersShareNothing(t *testing.T) {
	d := docOf(t, "div", "<p><b a=1 c=2 e=3>x<p>y<p>z<p><p>")
	before := dump(d)
	for h := 1; ; h++ {
		kids, e := d.Kids(h)
		if e != api.OK {
			break
		}
		attrs, _ := d.Attrs(h)
		otherKids, _ := d.Kids(h)
		otherAttrs, _ := d.Attrs(h)
		wantKids, wantAttrs := fmt.Sprint(otherKids[:cap(otherKids)]), fmt.Sprint(otherAttrs[:cap(otherAttrs)])
		for i := range kids[:cap(kids)] {
			kids[:cap(kids)][i] = -7
		}
		for i := range attrs[:cap(attrs)] {
			attrs[:cap(attrs)][i] = api.Attr{Name: "written", Value: "over"}
		}
		if got := fmt.Sprint(otherKids[:cap(otherKids)]); got != wantKids {
			t.Errorf("two answers of Kids(%d) share memory: %s, want %s", h, got, wantKids)
		}
		if got := fmt.Sprint(otherAttrs[:cap(otherAttrs)]); got != wantAttrs {
			t.Errorf("two answers of Attrs(%d) share memory: %s, want %s", h, got, wantAttrs)
		}
	}
	if got := dump(d); got != before {
		t.Errorf("what was written into answers is in the document:\n%swas\n%s", got, before)
	}
}

// TestP2AnswersStay: no later call changes an answer, spare room too.
func TestP2AnswersStay(t *testing.T) {
	d := docOf(t, "div", "<p><b a=1 c=2 e=3>x<p>y<p>z<p><p>")
	kids, _ := d.Kids(1)
	attrs, _ := d.Attrs(3)
	keptKids, keptAttrs := slices.Clone(kids[:cap(kids)]), slices.Clone(attrs[:cap(attrs)])
	insert(t, d, 1, kids[0], 0)
	remove(t, d, kids[1])
	insert(t, d, 1, create(t, d, "w"), kids[2])
	setAttr(t, d, 3, "a", "written")
	setAttr(t, d, 3, "f", "over")
	setInner(t, d, 1, "<x><y></y></x><z>")
	if !slices.Equal(kids[:cap(kids)], keptKids) {
		t.Errorf("a later call has changed an answer: %v, was %v", kids[:cap(kids)], keptKids)
	}
	if !slices.Equal(attrs[:cap(attrs)], keptAttrs) {
		t.Errorf("a later call has changed an answer: %v, was %v", attrs[:cap(attrs)], keptAttrs)
	}
}

// TestP2KeepsNothingHandedIn writes over the memory of strings that were handed in, as a caller might who made them of bytes without a copy.
func TestP2KeepsNothingHandedIn(t *testing.T) {
	var memory [][]byte
	lend := func(s string) string {
		memory = append(memory, []byte(s))
		return unsafe.String(&memory[len(memory)-1][0], len(s))
	}
	d := New()
	create(t, d, lend("div"))
	create(t, d, lend("p"))
	d.Text(lend("text"))
	d.Comment(lend("comment"))
	setAttr(t, d, 1, lend("name"), lend("value"))
	setAttr(t, d, 1, lend("other"), lend("value"))
	setAttr(t, d, 1, lend("other"), lend("again"))
	setInner(t, d, 2, lend("<x a=c>read</x>y<!--z--><code>w"))
	create(t, d, lend("code"))
	setInner(t, d, 11, lend("raw"))
	cleaned, tokens := Clean(lend("clean")), Tokens(lend("<x a=c>read"))
	want, wantTokens := dump(d), fmt.Sprint(tokens)
	if size(d) != 12 {
		t.Fatalf("not the nodes that were meant:\n%s", want)
	}
	for _, bytes := range memory {
		for i := range bytes {
			bytes[i] = '#'
		}
	}
	if got := dump(d); got != want {
		t.Errorf("the document has kept what was handed in:\n%swas\n%s", got, want)
	}
	if cleaned != "clean" || fmt.Sprint(tokens) != wantTokens {
		t.Errorf("answers share memory with what was handed in: %q, %v", cleaned, tokens)
	}
}
