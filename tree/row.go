package tree

import "slices"

// current tells the element into which nodes go.
func (b *builder) current() int {
	if len(b.open) == 0 {
		return holder
	}
	return b.open[len(b.open)-1]
}

// lastOpen tells where in the row the last element of one of these names is; -1, if there is none.
func (b *builder) lastOpen(names ...string) int {
	at := len(b.open) - 1
	for at >= 0 && !slices.Contains(names, b.openName(at)) {
		at--
	}
	return at
}

// openName tells the name of the element at a place in the row; the holder's is ahead of all, at -1.
func (b *builder) openName(at int) string {
	if at < 0 {
		return b.nodes[holder].Name
	}
	return b.nodes[b.open[at]].Name
}

// closeLast closes the last open element of a name, if none of these bars is behind it.
func (b *builder) closeLast(name string, bars ...string) {
	if at := b.lastOpen(name); at > b.lastOpen(bars...) {
		b.closeFrom(at)
	}
}

// closeFrom takes all from a place in the row on out of it.
func (b *builder) closeFrom(at int) {
	for i := len(b.open) - 1; i >= at; i-- {
		if b.openName(i) == "td" {
			b.marks = b.marks[:b.lastFence()]
		}
	}
	b.open = b.open[:at]
}
