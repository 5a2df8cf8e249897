package thatch

import (
	"fmt"
	"math/rand"
	"slices"
	"strings"
	"testing"

	"thatch/api"
)

// shape tells what a node holds, without numbers.
func shape(d *Doc, h int) string {
	n, _ := d.Node(h)
	attrs, _ := d.Attrs(h)
	kids, _ := d.Kids(h)
	out := fmt.Sprintf("%d %q %q %q [", n.Kind, n.Name, n.Data, attrs)
	for _, k := range kids {
		out += shape(d, k)
	}
	return out + "]"
}

// checkAgain reads once more, in a new element of the same name, what is written of an element that SetInner made (P12).
func checkAgain(t *testing.T, d *Doc, h int) {
	t.Helper()
	n, _ := d.Node(h)
	written := inner(t, d, h)
	if len(written) > api.MaxText {
		return
	}
	again, top := anyElement(t, n.Name)
	setInner(t, again, top, written)
	if got := inner(t, again, top); got != written {
		t.Errorf("%s of %q, written again: %q", n.Name, written, got)
	}
	attrs, _ := d.Attrs(h)
	want := strings.Replace(shape(d, h), fmt.Sprintf("%q", attrs), "[]", 1) // the holder's own attributes are not written
	if got := shape(again, top); got != want {
		t.Errorf("%s of %q, read again:\n%s, want\n%s", n.Name, written, got, want)
	}
}

// anyElement makes a document with an element of a name, which Create may refuse, but markup may have.
func anyElement(t *testing.T, name string) (*Doc, int) {
	t.Helper()
	d := New()
	if h, e := d.Create(name); e == api.OK {
		return d, h
	}
	return docOf(t, "div", "<"+name+">"), 2
}

// checkLinks holds parents against children: each child is so of one node, at one place, and no way up is without end.
func checkLinks(t *testing.T, d *Doc) {
	t.Helper()
	places := map[int]int{}
	for h := 1; ; h++ {
		n, e := d.Node(h)
		if e != api.OK {
			break
		}
		if n.Parent != 0 {
			places[h]--
		}
		kids, _ := d.Kids(h)
		for _, k := range kids {
			places[k]++
			if kid, e := d.Node(k); e != api.OK || kid.Parent != h {
				t.Fatalf("node %d is a child of %d, but tells %+v, %d", k, h, kid, e)
			}
		}
		for up, steps := n.Parent, 0; up != 0; steps++ {
			if steps > api.MaxNodes {
				t.Fatalf("going up from %d has no end", h)
			}
			n, _ := d.Node(up)
			up = n.Parent
		}
	}
	for h, left := range places {
		if left != 0 {
			t.Fatalf("node %d: more or fewer places than its parent tells (%d)", h, left)
		}
	}
}

type treeCase struct{ holder, markup, want string }

// checkTrees reads each row, and holds what is written of it against what is wanted.
func checkTrees(t *testing.T, cases []treeCase) {
	t.Helper()
	for _, c := range cases {
		d := docOf(t, c.holder, c.markup)
		if got := inner(t, d, 1); got != c.want {
			t.Errorf("%s of %q: %q, want %q", c.holder, c.markup, got, c.want)
		}
		checkAgain(t, d, 1)
		checkLinks(t, d)
	}
}

func TestP11Examples(t *testing.T) {
	checkTrees(t, []treeCase{
		{"div", "<p>one<p>two <b>bold<p>three", "<p>one</p><p>two <b>bold</b></p><p><b>three</b></p>"},
		{"div", "a<table>b<tr>c<td>d</table>e", "abc<table><tr><td>d</td></tr></table>e"},
		{"div", "<b>1<i>2</b>3</i>4", "<b>1<i>2</i></b><i>3</i>4"},
		{"div", "<ul><li>x<li>y</ul><code><b>&amp;</code>", "<ul><li>x</li><li>y</li></ul><code><b>&amp;</code>"},
	})
}

func TestP11WherePutIn(t *testing.T) {
	checkTrees(t, []treeCase{
		{"div", "", ""},
		{"div", "x", "x"},
		{"div", "x<br>y<!--z-->w", "x<br>y<!--z-->w"},
		{"div", "<table>x", "x<table></table>"},
		{"div", "<table><tr>x", "x<table><tr></tr></table>"},
		{"div", "<x>a</x>b<table>c</table>d", "<x>a</x>bc<table></table>d"},
		{"div", "<x>a</x><table>c<br>d", "<x>a</x>c<br>d<table></table>"},
		{"div", "<table>a<tr>b<td></td>c", "abc<table><tr><td></td></tr></table>"},
		{"div", "<table>a<!--c-->b<tr><!--d-->e", "abe<table><!--c--><tr><!--d--></tr></table>"},
		{"div", "<!--a--><table>b", "<!--a-->b<table></table>"},
		{"div", "<table></table><table>x", "<table></table>x<table></table>"},
		{"div", "<table><x>a</x>b<x>c", "<x>a</x>b<x>c</x><table></table>"},
		{"div", "<table><code>a</code><hr>", "<code>a</code><hr><table></table>"},
		{"div", "<table><ul><li>a", "<ul><li>a</li></ul><table></table>"},
		{"div", "<table><tr><td><table><tr>x", "<table><tr><td>x<table><tr></tr></table></td></tr></table>"},
		{"div", "<x><table><y><table>z", "<x><y>z<table></table></y><table></table></x>"},
		{"table", "x<tr>y<td>z</td>w<!--c-->", "x<tr><td>z</td><!--c--></tr>yw"},
		{"table", "<!--c-->x<br>y", "<!--c-->x<br>y"},
		{"table", "<tr><table>x</table><td>y", "<tr><td>y</td></tr>x<table></table>"},
		{"table", "<tr><b>x</b><p>y</p><td>z", "<tr><td>z</td></tr><b>x</b><p>y</p>"},
		{"tr", "x<td>y</td>z<p>w", "x<td>y</td>z<p>w</p>"},
		{"tr", "<!--c--><table>x", "<!--c-->x<table></table>"},
	})
}

func TestP11Marks(t *testing.T) {
	checkTrees(t, []treeCase{
		{"div", "<b><i><u>x</b>y</i>z</u>w", "<b><i><u>x</u></i></b><i><u>y</u></i><u>z</u>w"},
		{"div", "<p><b a=1 c='\"'><i>x<p>y", "<p><b a=\"1\" c=\"&quot;\"><i>x</i></b></p><p><b a=\"1\" c=\"&quot;\"><i>y</i></b></p>"},
		{"div", "<b><p><i></p>x", "<b><p><i></i></p><i>x</i></b>"},
		{"div", "<p><b></p><x>y", "<p><b></b></p><b><x>y</x></b>"},
		{"div", "<p><b></p><img>", "<p><b></b></p><b><img></b>"},
		{"div", "<p><b></p><code>x", "<p><b></b></p><b><code>x</code></b>"},
		{"div", "<p><b></p><i>x", "<p><b></b></p><b><i>x</i></b>"},
		{"div", "<p><b></p><ul><li></ul><div></div><!--c-->", "<p><b></b></p><ul><li></li></ul><div></div><!--c-->"},
		{"div", "<p><b></p><ul><li>x", "<p><b></b></p><ul><li><b>x</b></li></ul>"},
		{"div", "<p><b><b>x<p>y</b>z</b>w", "<p><b><b>x</b></b></p><p><b><b>y</b>z</b>w</p>"},
		{"div", "<b a><p><b c></p></b>x", "<b a=\"\"><p><b c=\"\"></b></p>x</b>"},
		{"div", "<x><b>y</x>z</b>w", "<x><b>y</b></x><b>z</b>w"},
		{"div", "</b><b>x</i>y</b>", "<b>xy</b>"},
		{"b", "</b>x<b>y</b></b>z", "x<b>y</b>z"},
		{"div", "<p><b>x</p></b></b>y", "<p><b>x</b></p>y"},
	})
}

func TestP11MarksAndFences(t *testing.T) {
	checkTrees(t, []treeCase{
		{"div", "<p><b></p><table><tr><td>x</table>y", "<p><b></b></p><table><tr><td>x</td></tr></table><b>y</b>"},
		{"div", "<p><b></p><table>x<tr><td>y", "<p><b></b></p><b>x</b><table><tr><td>y</td></tr></table>"},
		{"div", "<p><b></p><table><tr><td><p><i></p>x", "<p><b></b></p><table><tr><td><p><i></i></p><i>x</i></td></tr></table>"},
		{"div", "<table><tr><td><b>x<td>y</table>z", "<table><tr><td><b>x</b></td><td>y</td></tr></table>z"},
		{"div", "<table><tr><td><b>x<tr><td>y", "<table><tr><td><b>x</b></td></tr><tr><td>y</td></tr></table>"},
		{"div", "<table><tr><td><b>x</td>y", "y<table><tr><td><b>x</b></td></tr></table>"},
		{"div", "<b>1<table><tr><td><i>2<table><tr><td><u>3</table>4</table>5", "<b>1<table><tr><td><i>2<table><tr><td><u>3</u></td></tr></table>4</i></td></tr></table>5</b>"},
		{"div", "<b><table><tr><td></b>x</table></b>y", "<b><table><tr><td>x</td></tr></table></b>y"},
		{"div", "<b><table></b>x", "<b>x<table></table></b>"},
		{"div", "<b><table><tr></b>x</table></b>y", "<b>x<table><tr></tr></table></b>y"},
		{"div", "<table><b>x</b>y", "<b>x</b>y<table></table>"},
		{"div", "<table><b>x<tr>y", "<b>x</b><b>y</b><table><tr></tr></table>"},
		{"tr", "<td><b>x<td>y", "<td><b>x</b></td><td>y</td>"},
		{"tr", "<b>x<td>y</td>z", "<b>x</b><td>y</td><b>z</b>"},
		{"table", "<b>x<tr><td><i>y<tr>z", "<b>x</b><tr><td><i>y</i></td></tr><tr></tr><b>z</b>"},
		{"td", "<b>x</td>y", "<b>xy</b>"},
	})
}

func TestP11RowsAndCells(t *testing.T) {
	checkTrees(t, []treeCase{
		{"div", "<tr>a", "a"},
		{"div", "<td>a", "a"},
		{"div", "<p><tr>a<td>b", "<p>ab</p>"},
		{"div", "<table><td>a", "a<table></table>"},
		{"div", "<table a=1><tr b=2><td c=3>d", "<table a=\"1\"><tr b=\"2\"><td c=\"3\">d</td></tr></table>"},
		{"div", "<table><tr><tr><td><td><tr>", "<table><tr></tr><tr><td></td><td></td></tr><tr></tr></table>"},
		{"div", "<table><tr><td><p><x>a<td>b", "<table><tr><td><p><x>a</x></p></td><td>b</td></tr></table>"},
		{"div", "<table><tr><td><p><x>a<tr>b", "b<table><tr><td><p><x>a</x></p></td></tr><tr></tr></table>"},
		{"div", "<table><tr><td><table><td>a", "<table><tr><td>a<table></table></td></tr></table>"},
		{"div", "<table><tr><td><table><tr><td>a", "<table><tr><td><table><tr><td>a</td></tr></table></td></tr></table>"},
		{"div", "<table><x><td>a", "<x>a</x><table></table>"},
		{"div", "<table><tr><x><td>a", "<x></x><table><tr><td>a</td></tr></table>"},
		{"table", "<x><tr><td>a", "<x></x><tr><td>a</td></tr>"},
		{"table", "<td>a", "a"},
		{"table", "<tr><td>a<table><tr>b</table><tr>c", "<tr><td>ab<table><tr></tr></table></td></tr><tr></tr>c"},
		{"tr", "<tr>a", "a"},
		{"tr", "<x><td>a", "<x></x><td>a</td>"},
		{"tr", "<table><td>a", "a<table></table>"},
		{"tr", "<table><tr><td>a</table><td>b", "<table><tr><td>a</td></tr></table><td>b</td>"},
		{"td", "<td>a<tr>b", "ab"},
	})
}

func TestP11Blocks(t *testing.T) {
	for _, block := range []string{"p", "ul", "li", "div", "table"} {
		whole := "<" + block + "></" + block + ">"
		checkTrees(t, []treeCase{
			{"div", "<p>a<x>b<" + block + ">", "<p>a<x>b</x></p>" + whole},
			{"p", "a<" + block + ">", "a" + whole},
			{"div", "<table><p>a<" + block + "></table>", map[bool]string{false: "<p>a</p>" + whole + "<table></table>", true: "<p>a</p><table></table><table></table>"}[block == "table"]},
			{"div", "<b><" + block + "></b>", "<b>" + whole + "</b>"},
		})
	}
	for _, other := range []string{"x", "code", "b"} {
		checkTrees(t, []treeCase{{"div", "<p>a<" + other + ">b", "<p>a<" + other + ">b</" + other + "></p>"}})
	}
	for _, void := range []string{"br", "hr", "img"} {
		checkTrees(t, []treeCase{{"div", "<p>a<" + void + ">b</" + void + ">c", "<p>a<" + void + ">bc</p>"}})
	}
	checkTrees(t, []treeCase{
		{"div", "<div><div>a</div>b<ul><ul>c", "<div><div>a</div>b<ul><ul>c</ul></ul></div>"},
		{"div", "<li>a<li>b", "<li>a</li><li>b</li>"},
		{"div", "<li>a<x>b<li>c", "<li>a<x>b</x></li><li>c</li>"},
		{"div", "<li><ul>a<li>b<li>c", "<li><ul>a<li>b</li><li>c</li></ul></li>"},
		{"div", "<li><ul><x><li>b", "<li><ul><x><li>b</li></x></ul></li>"},
		{"div", "<li><table><tr><li>a", "<li><table><tr></tr></table></li><li>a</li>"},
		{"div", "<li><table><tr><td><li>a", "<li><table><tr><td><li>a</li></td></tr></table></li>"},
		{"div", "<li><p>a<li>b", "<li><p>a</p></li><li>b</li>"},
		{"div", "<ul><p>a<li>b", "<ul><p>a</p><li>b</li></ul>"},
		{"li", "a<li>b<li>c", "a<li>b</li><li>c</li>"},
		{"div", "<table><tr><td><p>a<p>b", "<table><tr><td><p>a</p><p>b</p></td></tr></table>"},
		{"div", "<table><table>a", "<table></table>a<table></table>"},
		{"div", "<table><tr><table>a", "<table><tr></tr></table>a<table></table>"},
		{"div", "<table><x><table>a", "<x>a<table></table></x><table></table>"},
		{"div", "<table><tr><td><table><table>a", "<table><tr><td><table></table>a<table></table></td></tr></table>"},
		{"table", "<table><table>a", "<table></table>a<table></table>"},
		{"table", "<tr><table><tr>", "<tr></tr><table><tr></tr></table>"},
	})
}

func TestP11Ends(t *testing.T) {
	checkTrees(t, []treeCase{
		{"div", "</div></p></x></b></td></tr></table></br></code>a", "a"},
		{"div", "<x><y><x>a</x>b</x>c", "<x><y><x>a</x>b</y></x>c"},
		{"div", "<x><p><y>a</x>b</p>c</y>", "<x><p><y>a</y></p></x>bc"},
		{"div", "<x><table></x>a</table>b</x>c", "<x>a<table></table>b</x>c"},
		{"div", "<x><table><tr><td></x>a", "<x><table><tr><td>a</td></tr></table></x>"},
		{"div", "<p><x>a</p>b</x>", "<p><x>a</x></p>b"},
		{"div", "<table><tr><td>a</tr>b</table>c", "b<table><tr><td>a</td></tr></table>c"},
		{"div", "<table><tr><td><x>a</td>b", "b<table><tr><td><x>a</x></td></tr></table>"},
		{"div", "<table><tr><td><table></td>a</tr>b", "<table><tr><td>ab<table></table></td></tr></table>"},
		{"div", "<table><tr><td><table></table></td>a", "a<table><tr><td><table></table></td></tr></table>"},
		{"div", "<table><tr><td><x></table>a", "<table><tr><td><x></x></td></tr></table>a"},
		{"div", "<table><x>a</x>b</table>c", "<x>a</x>b<table></table>c"},
		{"div", "<table></td></tr><tr></td>a</tr>b", "ab<table><tr></tr></table>"},
		{"table", "</table>a<tr></table>b", "a<tr></tr>b"},
		{"tr", "</tr>a<td></tr>b", "a<td>b</td>"},
		{"div", "<ul><li>a</ul>b</li>", "<ul><li>a</li></ul>b"},
	})
}

func TestP11Code(t *testing.T) {
	checkTrees(t, []treeCase{
		{"code", "", ""},
		{"code", "<b>&amp;</code>\r\n\r\x00\xff<!--", "<b>&amp;</code>\n\n\ufffd\ufffd<!--"},
		{"div", "<code>&amp;</code>&amp;", "<code>&amp;</code>&amp;"},
		{"div", "<code a=1><p>\u00a0</CODE >b", "<code a=\"1\"><p>\u00a0</code>b"},
		{"div", "<code>a</code", "<code>a</code</code>"},
		{"div", "<code>", "<code></code>"},
	})
	d := docOf(t, "code", "")
	checkKids(t, d, 1)
	setInner(t, d, 1, "a<b>c</b>&lt;")
	checkKids(t, d, 1, 2)
	checkNode(t, d, 2, api.Node{Kind: api.Text, Data: "a<b>c</b>&lt;", Parent: 1})
}

func TestP11NumbersAreInTheOrderOfMaking(t *testing.T) {
	d := docOf(t, "div", "a<table>b<br>c</table><p><b><i></p>d<p>")
	for h, want := range []api.Node{
		{Kind: api.Element, Name: "div"},
		{Kind: api.Text, Data: "ab", Parent: 1},
		{Kind: api.Element, Name: "table", Parent: 1},
		{Kind: api.Element, Name: "br", Parent: 1},
		{Kind: api.Text, Data: "c", Parent: 1},
		{Kind: api.Element, Name: "p", Parent: 1},
		{Kind: api.Element, Name: "b", Parent: 6},
		{Kind: api.Element, Name: "i", Parent: 7},
		{Kind: api.Element, Name: "b", Parent: 1},
		{Kind: api.Element, Name: "i", Parent: 9},
		{Kind: api.Text, Data: "d", Parent: 10},
		{Kind: api.Element, Name: "p", Parent: 10},
	} {
		checkNode(t, d, h+1, want)
	}
	checkKids(t, d, 1, 2, 4, 5, 3, 6, 9)
	checkKids(t, d, 10, 11, 12)
	checkNoNode(t, d, 13)
}

func TestP11OldChildrenAreLetGo(t *testing.T) {
	d := docOf(t, "div", "<p>a<b>b</b></p>c")
	setInner(t, d, 2, "d<i>e")
	if got, want := inner(t, d, 1), "<p>d<i>e</i></p>c"; got != want {
		t.Errorf("the inner element anew: %q, want %q", got, want)
	}
	checkNode(t, d, 3, api.Node{Kind: api.Text, Data: "a"})
	checkNode(t, d, 4, api.Node{Kind: api.Element, Name: "b"})
	checkNode(t, d, 5, api.Node{Kind: api.Text, Data: "b", Parent: 4})
	setInner(t, d, 1, "")
	checkKids(t, d, 1)
	checkNode(t, d, 2, api.Node{Kind: api.Element, Name: "p"})
	checkKids(t, d, 2, 7, 8)
	setInner(t, d, 2, "</p>x<p>y")
	if got, want := inner(t, d, 2), "x<p>y</p>"; got != want {
		t.Errorf("an element that is a child of none: %q, want %q", got, want)
	}
	checkNode(t, d, 2, api.Node{Kind: api.Element, Name: "p"})
	checkLinks(t, d)
}

// TestP11RulesSeeTheHolderAlone: what stands around the holder is not open, and takes nothing in.
func TestP11RulesSeeTheHolderAlone(t *testing.T) {
	d := docOf(t, "div", "<table><tr><td><p><b>x")
	setInner(t, d, 5, "</p></td><tr><td><table>y<p>z</b>")
	if got, want := inner(t, d, 1), "<table><tr><td><p>y<p>z</p><table></table></p></td></tr></table>"; got != want {
		t.Errorf("%q, want %q", got, want)
	}
	checkLinks(t, d)
}

// checkRefused makes a call that must be refused without a change.
func checkRefused(t *testing.T, d *Doc, h int, markup string, want api.Errno) {
	t.Helper()
	before := dump(d)
	if e := d.SetInner(h, markup); e != want {
		t.Errorf("SetInner(%d, %d bytes): %d, want %d", h, len(markup), e, want)
	}
	if got := dump(d); got != before {
		t.Errorf("a refused SetInner(%d) has changed the document:\n%swas\n%s", h, got, before)
	}
}

func TestP11Kinds(t *testing.T) {
	d := docOf(t, "div", "x<!--y--><br><hr><img>")
	tooLong := strings.Repeat("x", api.MaxText+1)
	for _, name := range []string{"br", "hr", "img"} {
		h := create(t, d, name)
		checkRefused(t, d, h, "", api.ErrKind)
		checkRefused(t, d, h, tooLong, api.ErrKind)
	}
	for h := 2; h <= 6; h++ {
		checkRefused(t, d, h, "x", api.ErrKind)
		checkRefused(t, d, h, tooLong, api.ErrKind)
	}
	for _, h := range noNumbers {
		checkRefused(t, d, h, tooLong, api.ErrNode)
	}
}

func TestP11Long(t *testing.T) {
	d := docOf(t, "div", "y")
	checkRefused(t, d, 1, strings.Repeat("x", api.MaxText+1), api.ErrLong)
	checkRefused(t, d, 1, strings.Repeat("\r\n", api.MaxText/2)+"\n", api.ErrLong)
	checkRefused(t, d, 1, strings.Repeat("<x>", 1000000), api.ErrLong)
	setInner(t, d, 1, strings.Repeat("x", api.MaxText))
	setInner(t, d, 1, strings.Repeat("\xff", api.MaxText))
	if got := inner(t, d, 1); got != strings.Repeat("\ufffd", api.MaxText) {
		t.Errorf("what grows by cleaning: %d bytes", len(got))
	}
}

func TestP11Full(t *testing.T) {
	d := docOf(t, "div", strings.Repeat("<x>", 133)) // 134 nodes
	setInner(t, d, 1, strings.Repeat("<x>", 133))    // 267
	checkRefused(t, d, 1, strings.Repeat("<x>", 34), api.ErrFull)
	checkRefused(t, d, 1, "<p>"+strings.Repeat("<b>", 6)+strings.Repeat("<p>x", 4), api.ErrFull) // 8+4*7: the marks that are raised count
	checkRefused(t, d, 5, strings.Repeat("<!>", 34), api.ErrFull)
	setInner(t, d, 1, strings.Repeat("<x>", 32)+"y") // 300
	checkRefused(t, d, 1, "y", api.ErrFull)
	checkRefused(t, d, 1, "<br>", api.ErrFull)
	checkRefused(t, d, 1, strings.Repeat("x", api.MaxText+1), api.ErrLong)
	checkRefused(t, d, 300, "y", api.ErrKind)
	checkRefused(t, d, 301, "y", api.ErrNode)
	setInner(t, d, 1, "</p><tr><td><x")
	checkKids(t, d, 1)
	checkNoNode(t, d, 301)
}

func TestP10Inner(t *testing.T) {
	d := docOf(t, "div", "<p a='&amp;&quot;&nbsp;&lt;&gt;&apos;' =>&amp;&lt;&gt;&nbsp;&quot;&apos;</p><!--&amp;<b>--><br z><code>&amp;<i>\u00a0</code><x></x>")
	for h, want := range map[int]string{
		1: "<p a=\"&amp;&quot;&nbsp;<>'\" ==\"\">&amp;&lt;&gt;&nbsp;\"'</p><!--&amp;<b>--><br z=\"\"><code>&amp;<i>\u00a0</code><x></x>",
		2: "&amp;&lt;&gt;&nbsp;\"'",
		3: "&<>\u00a0\"'",
		4: "&amp;<b>",
		5: "",
		6: "&amp;<i>\u00a0",
		7: "&amp;<i>\u00a0",
		8: "",
	} {
		if got := inner(t, d, h); got != want {
			t.Errorf("Inner(%d): %q, want %q", h, got, want)
		}
	}
	for _, h := range append(noNumbers, 9) {
		checkNoNode(t, d, h)
	}
}

func TestP10Deep(t *testing.T) {
	d := New()
	h := create(t, d, "x")
	for range 2 {
		setInner(t, d, h, strings.Repeat("<x>", 133))
		h += 133
	}
	setInner(t, d, h, strings.Repeat("<x>", 33))
	if got, want := inner(t, d, 1), strings.Repeat("<x>", 299)+strings.Repeat("</x>", 299); got != want {
		t.Errorf("299 elements in each other: %q", got)
	}
}

func TestP12Edges(t *testing.T) {
	for _, markup := range []string{
		"<a<b c\"=d>x", "<a =b==c ='/\"'>", "<a'\"&amp; &lt;=1>", "<a\x00\xff \u00c9=\u00c9>", "<x v='&#13;&#0;&#55296;'>&#13;\n&#0;",
		"<!-->", "<!--->", "<!--a--", "<!--a-", "<!--a--b->", "<!a-->", "<!-", "<?x", "<!--&amp;&nbsp;-->",
		"&amp;amp;&amp;#65;&lt;b&gt;&amp;nbsp;", "\n\n<p>\n", "<code>\n</code>", "<code></codes></code", "<code></c</code>", "<code></code", "<code>a</code ",
		"<table>a<table>b<tr>c<table>d<td>e", "<table><tr><td><table><p><b>a<li>b<table>c<i>d</table>e",
	} {
		for _, holder := range []string{"div", "p", "li", "b", "table", "tr", "td", "code"} {
			d := docOf(t, holder, markup)
			checkAgain(t, d, 1)
			checkLinks(t, d)
		}
	}
}

var parts = []string{
	"<table>", "<tr>", "<td>", "</table>", "</tr>", "</td>", "<table><tr><td>",
	"<p>", "</p>", "<ul>", "</ul>", "<li>", "</li>", "<div>", "</div>",
	"<b>", "</b>", "<i a=1>", "</i>", "<u a='&quot;' c>", "</u>",
	"<x>", "</x>", "<y z", "<br>", "<hr", "<img a>", " =\"", "'", ">", "/",
	"<code>", "</code>", "</code", "<!--", "-->", "--", "<!d>", "<?", "t", "&lt;", "&nbsp;", "&", "<", "\r", "\x00", "\xff",
}

// TestP12Mixed reads random markup into random nodes of a document: each call is refused without a change, or leaves a tree that is read again.
func TestP12Mixed(t *testing.T) {
	random := rand.New(rand.NewSource(2))
	names := []string{"div", "p", "li", "ul", "b", "x", "table", "tr", "td", "code", "br"}
	for range 300 {
		d := New()
		for range 3 {
			create(t, d, names[random.Intn(len(names))])
		}
		for range 12 {
			mixSetInner(t, d, random)
			checkLinks(t, d)
		}
	}
}

// mixSetInner makes one random call, and checks what came of it.
func mixSetInner(t *testing.T, d *Doc, random *rand.Rand) {
	t.Helper()
	markup := ""
	for range random.Intn(50) {
		markup += parts[random.Intn(len(parts))]
	}
	h := random.Intn(12)
	before, oldKids := dump(d), []int(nil)
	if l, e := d.Kids(h); e == api.OK {
		oldKids = l
	}
	e := d.SetInner(h, markup)
	if e != api.OK {
		if got := dump(d); got != before {
			t.Fatalf("SetInner(%d, %q): %d, but it has changed the document", h, markup, e)
		}
		return
	}
	checkAgain(t, d, h)
	kids, _ := d.Kids(h)
	for _, k := range oldKids {
		if n, _ := d.Node(k); n.Parent != 0 || slices.Contains(kids, k) {
			t.Fatalf("SetInner(%d, %q): the old child %d is still one: %+v", h, markup, k, n)
		}
	}
}

func FuzzSetInner(f *testing.F) {
	f.Add("div", "<p>one<p>two <b>bold<p>three")
	f.Add("table", "a<table>b<tr>c<td>d</table>e<b>1<i>2</b>3</i>4<code><b>&amp;</code>")
	f.Fuzz(func(t *testing.T, name string, markup string) {
		d := New()
		if h, e := d.Create(name); e != api.OK || d.SetInner(h, markup) != api.OK {
			return
		}
		checkAgain(t, d, 1)
		checkLinks(t, d)
	})
}
