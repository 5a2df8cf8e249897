package tree

import (
	"fmt"
	"math/rand"
	"strings"
	"testing"

	"thatch/api"
	"thatch/markup"
)

// What follows goes through the rules for trees a second time, word by word and with pointers, so that build can be held against it.

type thing struct {
	kind       api.Kind
	name, data string
	attrs      []api.Attr
	in         *thing
	holds      []*thing
}

type rules struct {
	holder *thing
	row    []*thing
	list   []*thing // nil: a fence
	made   []*thing
}

func anyOf(l []*thing, names ...string) bool {
	for _, x := range l {
		for _, name := range names {
			if x.name == name {
				return true
			}
		}
	}
	return false
}

func (r *rules) current() *thing {
	if len(r.row) > 0 {
		return r.row[len(r.row)-1]
	}
	return r.holder
}

func (r *rules) isOpen(x *thing) bool {
	for _, y := range r.row {
		if x == y {
			return true
		}
	}
	return false
}

// last tells the last open one of a name that has none of bars behind it.
func (r *rules) last(name string, bars ...string) *thing {
	var found *thing
	for i, x := range r.row {
		if x.name == name && !anyOf(r.row[i+1:], bars...) {
			found = x
		}
	}
	return found
}

// pop takes the last one out of the row.
func (r *rules) pop() {
	x := r.current()
	r.row = r.row[:len(r.row)-1]
	for x.name == "td" && len(r.list) > 0 {
		gone := r.list[len(r.list)-1]
		r.list = r.list[:len(r.list)-1]
		if gone == nil {
			break
		}
	}
}

func (r *rules) closeBehind(x *thing) {
	for r.current() != x {
		r.pop()
	}
}

func (r *rules) close(x *thing) {
	if x != nil {
		r.closeBehind(x)
		r.pop()
	}
}

func (r *rules) put(x *thing) *thing {
	in := r.current()
	fits := x.kind == api.Comment || in.name == "table" && x.name == "tr" || in.name == "tr" && x.name == "td"
	ahead, behind := in.holds, []*thing(nil)
	if (in.name == "table" || in.name == "tr") && !fits {
		in = r.holder
		ahead = in.holds
		if table := r.last("table"); table != nil {
			in = table.in
			for i, y := range in.holds {
				if y == table {
					ahead, behind = in.holds[:i], in.holds[i:]
				}
			}
		}
	}
	if x.kind == api.Text && len(ahead) > 0 && ahead[len(ahead)-1].kind == api.Text {
		ahead[len(ahead)-1].data += x.data
		return nil
	}
	x.in = in
	var all []*thing
	all = append(all, ahead...)
	all = append(all, x)
	all = append(all, behind...)
	in.holds = all
	r.made = append(r.made, x)
	return x
}

func (r *rules) putOpen(name string, attrs []api.Attr) *thing {
	x := r.put(&thing{kind: api.Element, name: name, attrs: attrs})
	r.row = append(r.row, x)
	return x
}

func (r *rules) raise() {
	first := len(r.list)
	for i := len(r.list) - 1; i >= 0; i-- {
		if r.list[i] == nil || r.isOpen(r.list[i]) {
			break
		}
		first = i
	}
	for i, x := range r.list {
		if i >= first {
			r.list[i] = r.putOpen(x.name, x.attrs)
		}
	}
}

func (r *rules) begin(name string, attrs []api.Attr) {
	switch name {
	case "tr":
		if table := r.last("table"); table != nil {
			r.closeBehind(table)
		} else if r.holder.name == "table" {
			r.closeBehind(r.holder)
		} else {
			return
		}
		r.putOpen(name, attrs)
	case "td":
		if tr := r.last("tr", "table", "tr"); tr != nil {
			r.closeBehind(tr)
		} else if !anyOf(r.row, "table", "tr") && r.holder.name == "tr" {
			r.closeBehind(r.holder)
		} else {
			return
		}
		r.putOpen(name, attrs)
		r.list = append(r.list, nil)
	case "p", "ul", "li", "div", "table":
		if name == "li" {
			r.close(r.last("li", "ul", "td"))
		}
		r.close(r.last("p", "td", "table"))
		if name == "table" && (r.current().name == "table" || r.current().name == "tr") {
			r.close(r.last("table"))
		}
		r.putOpen(name, attrs)
	case "br", "hr", "img":
		r.raise()
		r.put(&thing{kind: api.Element, name: name, attrs: attrs})
	case "b", "i", "u":
		r.raise()
		r.list = append(r.list, r.putOpen(name, attrs))
	default:
		r.raise()
		r.putOpen(name, attrs)
	}
}

func (r *rules) end(name string) {
	switch name {
	case "b", "i", "u":
		found := -1
		for i, x := range r.list {
			if x == nil {
				found = -1
			} else if x.name == name {
				found = i
			}
		}
		if found < 0 {
			return
		}
		x := r.list[found]
		for i, y := range r.row {
			if x == y && anyOf(r.row[i+1:], "td", "table") {
				return
			}
		}
		if r.isOpen(x) {
			r.close(x)
		}
		r.list = append(append([]*thing(nil), r.list[:found]...), r.list[found+1:]...)
	case "table":
		r.close(r.last(name))
	case "td", "tr":
		r.close(r.last(name, "table"))
	default:
		r.close(r.last(name, "td", "table"))
	}
}

// expectNodes tells what build should make, each node in a line.
func expectNodes(name string, text string) string {
	r := rules{holder: &thing{kind: api.Element, name: name}}
	if name == "code" {
		if text != "" {
			r.put(&thing{kind: api.Text, data: markup.Clean(text)})
		}
		return r.told()
	}
	for _, t := range markup.Tokens(text) {
		switch t.Kind {
		case api.Text:
			r.raise()
			r.put(&thing{kind: api.Text, data: t.Data})
		case api.Comment:
			r.put(&thing{kind: api.Comment, data: t.Data})
		case api.Element:
			r.begin(t.Name, t.Attrs)
		case api.End:
			r.end(t.Name)
		}
	}
	return r.told()
}

func (r *rules) told() string {
	number := map[*thing]int{r.holder: 0}
	for i, x := range r.made {
		number[x] = i + 1
	}
	out := ""
	for _, x := range append([]*thing{r.holder}, r.made...) {
		kids := []int{}
		for _, y := range x.holds {
			kids = append(kids, number[y])
		}
		out += fmt.Sprintf("%d %q %q %q in %d %v\n", x.kind, x.name, x.data, x.attrs, number[x.in], kids)
	}
	return out
}

func toldNodes(l []node) string {
	out := ""
	for _, n := range l {
		out += fmt.Sprintf("%d %q %q %q in %d %v\n", n.Kind, n.Name, n.Data, n.attrs, n.Parent, append([]int{}, n.kids...))
	}
	return out
}

func checkBuilding(t *testing.T, name string, text string) {
	t.Helper()
	if got, want := toldNodes(build(name, text)), expectNodes(name, text); got != want {
		t.Fatalf("%s of %q:\n%swant\n%s", name, text, got, want)
	}
}

var holders = []string{"div", "p", "li", "ul", "b", "x", "table", "tr", "td", "code"}

func TestP11AllShortMarkup(t *testing.T) {
	for name, parts := range map[string][]string{
		"tables": {"<table>", "<tr>", "<td>", "</table>", "</tr>", "</td>", "x", "<b>", "</b>"},
		"blocks": {"<p>", "<li>", "<ul>", "<table>", "<tr><td>", "</ul>", "</p>", "x", "<y>"},
		"marks":  {"<b>", "<i a=1>", "</b>", "</i>", "<p>", "</p>", "x", "<table>", "<br>"},
	} {
		t.Run(name, func(t *testing.T) {
			var grow func(s string, left int)
			grow = func(s string, left int) {
				for _, holder := range holders {
					checkBuilding(t, holder, s)
				}
				if left > 0 {
					for _, p := range parts {
						grow(s+p, left-1)
					}
				}
			}
			grow("", 4)
		})
	}
}

var mixed = []string{
	"<table>", "<tr>", "<td>", "</table>", "</tr>", "</td>", "<table><tr><td>",
	"<p>", "</p>", "<ul>", "</ul>", "<li>", "</li>", "<div>", "</div>",
	"<b>", "</b>", "<i a=1>", "</i>", "<u a='&quot;' c>", "</u>",
	"<x>", "</x>", "<y z>", "</y>", "<br>", "</br>", "<hr>", "<img a>",
	"<code>", "</code>", "<code>&lt;</b></code>", "<!--c-->", "<!d>", "t", "u&lt;", "&nbsp;", "<", "\r", "\x00",
}

// mix makes markup of random parts.
func mix(random *rand.Rand, most int) string {
	var s strings.Builder
	for range random.Intn(most) {
		s.WriteString(mixed[random.Intn(len(mixed))])
	}
	return s.String()
}

func TestP11MixedMarkup(t *testing.T) {
	random := rand.New(rand.NewSource(1))
	for range 20000 {
		checkBuilding(t, holders[random.Intn(len(holders))], mix(random, 60))
	}
}

func FuzzBuilding(f *testing.F) {
	f.Add(0, "<p>one<p>two <b>bold<p>three")
	f.Add(6, "a<table>b<tr>c<td>d</table>e<b>1<i>2</b>3</i>4<ul><li>x<li>y</ul><code><b>&amp;</code>")
	f.Fuzz(func(t *testing.T, holder int, text string) {
		// Long texts and deep rows are slow in the second reading.
		if len(text) <= 4*api.MaxText {
			checkBuilding(t, holders[uint(holder)%uint(len(holders))], text)
		}
	})
}
