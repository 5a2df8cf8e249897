package thatch

import (
	"fmt"
	"math/rand"
	"slices"
	"strings"
	"testing"

	"thatch/api"
)

// twin is a second telling of what a document keeps, by pointers; random calls are held against it.
type twin struct {
	nodes []*twinNode
}

type twinNode struct {
	number     int
	kind       api.Kind
	name, data string
	parent     *twinNode
	kids       []*twinNode
	attrs      []api.Attr
}

// find tells a node; nil, if it is not there.
func (w *twin) find(h int) *twinNode {
	for _, n := range w.nodes {
		if n.number == h {
			return n
		}
	}
	return nil
}

func (w *twin) add(kind api.Kind, name string, data string) *twinNode {
	n := &twinNode{number: len(w.nodes) + 1, kind: kind, name: name, data: data}
	w.nodes = append(w.nodes, n)
	return n
}

func (n *twinNode) isHolder() bool {
	return n.kind == api.Element && n.name != "br" && n.name != "hr" && n.name != "img"
}

// cut takes a node out of what holds it.
func (n *twinNode) cut() {
	if n.parent != nil {
		n.parent.kids = slices.DeleteFunc(n.parent.kids, func(k *twinNode) bool { return k == n })
	}
	n.parent = nil
}

// all tells a node and those within it.
func (n *twinNode) all() []*twinNode {
	out := []*twinNode{n}
	for _, k := range n.kids {
		out = append(out, k.all()...)
	}
	return out
}

func (w *twin) insert(parent int, child int, before int) api.Errno {
	p, c, b := w.find(parent), w.find(child), w.find(before)
	if p == nil || c == nil {
		return api.ErrNode
	}
	if !p.isHolder() {
		return api.ErrKind
	}
	if slices.Contains(c.all(), p) {
		return api.ErrLoop
	}
	if before != 0 && (b == nil || b.parent != p) {
		return api.ErrChild
	}
	if b == c {
		return api.OK
	}
	c.cut()
	c.parent = p
	var kids []*twinNode
	for _, k := range p.kids {
		if k == b {
			kids = append(kids, c)
		}
		kids = append(kids, k)
	}
	if b == nil {
		kids = append(kids, c)
	}
	p.kids = kids
	return api.OK
}

func (w *twin) remove(h int) api.Errno {
	n := w.find(h)
	if n == nil {
		return api.ErrNode
	}
	n.cut()
	return api.OK
}

func (w *twin) setAttr(h int, name string, value string) api.Errno {
	n := w.find(h)
	switch {
	case n == nil:
		return api.ErrNode
	case n.kind != api.Element:
		return api.ErrKind
	case slices.Contains(badAttrNames, name):
		return api.ErrName
	case max(len(name), len(value)) > api.MaxText:
		return api.ErrLong
	}
	for i := range n.attrs {
		if n.attrs[i].Name == name {
			n.attrs[i].Value = Clean(value)
			return api.OK
		}
	}
	n.attrs = append(n.attrs, api.Attr{Name: name, Value: Clean(value)})
	return api.OK
}

func (w *twin) make(kind api.Kind, name string, data string) (int, api.Errno) {
	switch {
	case kind == api.Element && (name == "" || strings.Trim(name, "abcdefghijklmnopqrstuvwxyz") != "" || len(name) > api.MaxName):
		return 0, api.ErrName
	case len(data) > api.MaxText:
		return 0, api.ErrLong
	case len(w.nodes) == api.MaxNodes:
		return 0, api.ErrFull
	}
	return w.add(kind, name, Clean(data)).number, api.OK
}

// setInner takes over what another document reads, in which the holder is the only element ahead of what is new.
func (w *twin) setInner(t *testing.T, h int, markup string) api.Errno {
	n := w.find(h)
	switch {
	case n == nil:
		return api.ErrNode
	case !n.isHolder():
		return api.ErrKind
	case len(markup) > api.MaxText:
		return api.ErrLong
	}
	d, top := anyElement(t, n.name)
	setInner(t, d, top, markup)
	fresh := size(d) - top
	if len(w.nodes)+fresh > api.MaxNodes {
		return api.ErrFull
	}
	for _, k := range slices.Clone(n.kids) {
		k.cut()
	}
	here := map[int]*twinNode{top: n}
	for i := top + 1; i <= top+fresh; i++ {
		from, _ := d.Node(i)
		here[i] = w.add(from.Kind, from.Name, from.Data)
		here[i].attrs, _ = d.Attrs(i)
	}
	for i := top; i <= top+fresh; i++ {
		kids, _ := d.Kids(i)
		for _, k := range kids {
			here[k].parent = here[i]
			here[i].kids = append(here[i].kids, here[k])
		}
	}
	return api.OK
}

var (
	textWriter  = strings.NewReplacer("&", "&amp;", "<", "&lt;", ">", "&gt;", "\u00a0", "&nbsp;")
	valueWriter = strings.NewReplacer("&", "&amp;", "\"", "&quot;", "\u00a0", "&nbsp;")
)

// inner writes what a node holds.
func (n *twinNode) inner() string {
	if n.kind != api.Element {
		return n.data
	}
	out := ""
	for _, k := range n.kids {
		switch {
		case k.kind == api.Text && n.name == "code":
			out += k.data
		case k.kind == api.Text:
			out += textWriter.Replace(k.data)
		case k.kind == api.Comment:
			out += "<!--" + k.data + "-->"
		default:
			out += k.outer()
		}
	}
	return out
}

func (n *twinNode) outer() string {
	out := "<" + n.name
	for _, a := range n.attrs {
		out += " " + a.Name + "=\"" + valueWriter.Replace(a.Value) + "\""
	}
	if !n.isHolder() {
		return out + ">"
	}
	return out + ">" + n.inner() + "</" + n.name + ">"
}

// dump tells all of it in the form of the function dump.
func (w *twin) dump() string {
	var out strings.Builder
	for _, n := range w.nodes {
		told := api.Node{Kind: n.kind, Name: n.name, Data: n.data}
		if n.parent != nil {
			told.Parent = n.parent.number
		}
		kids := []int{}
		for _, k := range n.kids {
			kids = append(kids, k.number)
		}
		fmt.Fprintf(&out, "%d: %+v %v %q %q\n", n.number, told, kids, n.attrs, n.inner())
	}
	return out.String()
}

// mixer makes random calls of a document and its twin.
type mixer struct {
	random *rand.Rand
	doc    *Doc
	twin   twin
}

func pick[T any](m *mixer, list []T) T {
	return list[m.random.Intn(len(list))]
}

// number tells a node that is there, mostly.
func (m *mixer) number() int {
	if m.random.Intn(12) == 0 {
		return pick(m, append(noNumbers, len(m.twin.nodes)+1))
	}
	return 1 + m.random.Intn(min(len(m.twin.nodes)+1, 15))
}

// before tells where to insert: often a child of the parent.
func (m *mixer) before(parent int) int {
	if n := m.twin.find(parent); n != nil && len(n.kids) > 0 && m.random.Intn(2) == 0 {
		return pick(m, n.kids).number
	}
	return pick(m, []int{0, 0, 0, m.number()})
}

func (m *mixer) data() string {
	if m.random.Intn(20) == 0 {
		return strings.Repeat("x", api.MaxText+m.random.Intn(2))
	}
	return pick(m, nasty) + pick(m, nasty)
}

// step makes one call, and tells it with both answers.
func (m *mixer) step(t *testing.T) (call string, got string, want string) {
	d, w := m.doc, &m.twin
	h, data := m.number(), m.data()
	tell := func(name string, arguments ...any) { call = fmt.Sprintf("%s%.300q", name, arguments) }
	say := func(number int, e api.Errno) string { return fmt.Sprint(number, e) }
	switch m.random.Intn(12) {
	case 0, 1:
		name := pick(m, []string{"div", "p", "x", "y", "b", "code", "br", "table", "tr", "td", "abcdefgh", "abcdefghi", "A", ""})
		tell("Create", name)
		return call, say(d.Create(name)), say(w.make(api.Element, name, ""))
	case 2:
		tell("Text", data)
		return call, say(d.Text(data)), say(w.make(api.Text, "", data))
	case 3:
		tell("Comment", data)
		return call, say(d.Comment(data)), say(w.make(api.Comment, "", data))
	case 4:
		tell("Remove", h)
		return call, say(0, d.Remove(h)), say(0, w.remove(h))
	case 5:
		name := pick(m, append([]string{"a", "b", "=c", "<", "a", "b", "=", strings.Repeat("n", api.MaxText), strings.Repeat("n", api.MaxText+1)}, badAttrNames[:8]...))
		tell("SetAttr", h, name, data)
		return call, say(0, d.SetAttr(h, name, data)), say(0, w.setAttr(h, name, data))
	case 6:
		for range m.random.Intn(8) {
			data += pick(m, parts)
		}
		tell("SetInner", h, data)
		return call, say(0, d.SetInner(h, data)), say(0, w.setInner(t, h, data))
	}
	child := m.number()
	before := m.before(h)
	tell("Insert", h, child, before)
	return call, say(0, d.Insert(h, child, before)), say(0, w.insert(h, child, before))
}

// checkAll asks for all nodes at once.
func (m *mixer) checkAll(t *testing.T) {
	t.Helper()
	var l []int
	var want []string
	for _, n := range m.twin.nodes {
		l, want = append(l, n.number), append(want, n.inner())
	}
	if got, e := m.doc.Inners(l...); e != api.OK || !slices.Equal(got, want) {
		t.Fatalf("Inners(%v): %q, %d, want %q", l, got, e, want)
	}
}

// TestP14Mixed holds random calls, right and wrong ones, against the twin: each answer, and all that can be asked behind each call.
func TestP14Mixed(t *testing.T) {
	random := rand.New(rand.NewSource(3))
	seen := map[string]int{}
	for round := range 150 {
		m := &mixer{random: random, doc: New()}
		var calls []string
		if round%5 == 0 { // soon full
			for range api.MaxNodes - 20 {
				create(t, m.doc, "x")
				m.twin.add(api.Element, "x", "")
			}
		}
		for range 60 {
			call, got, want := m.step(t)
			calls = append(calls, call)
			if got != want || dump(m.doc) != m.twin.dump() {
				t.Fatalf("%s:\nanswers %s, want %s, and leaves\n%swant\n%s", strings.Join(calls, "\n"), got, want, dump(m.doc), m.twin.dump())
			}
			seen[call[:strings.Index(call, "[")]+want[strings.Index(want, " "):]]++
		}
		checkLinks(t, m.doc)
		m.checkAll(t)
	}
	for _, answer := range []string{
		"Create 0", "Create 5", "Create 7", "Text 0", "Text 6", "Text 7", "Comment 0", "Comment 6", "Comment 7", "Remove 0", "Remove 1",
		"SetAttr 0", "SetAttr 1", "SetAttr 2", "SetAttr 5", "SetAttr 6", "SetInner 0", "SetInner 1", "SetInner 2", "SetInner 6", "SetInner 7",
		"Insert 0", "Insert 1", "Insert 2", "Insert 3", "Insert 4",
	} {
		if seen[answer] == 0 {
			t.Errorf("no random call has had the answer %s", answer)
		}
	}
}
