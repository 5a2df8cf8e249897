package tree

import "slices"

// lastFence tells where in the list of marks the last fence is; -1, if there is none.
func (b *builder) lastFence() int {
	at := len(b.marks) - 1
	for at >= 0 && b.marks[at] != fence {
		at--
	}
	return at
}

// lastMark tells where in the list the last mark of a name is, behind the last fence; -1, if there is none.
func (b *builder) lastMark(name string) int {
	first := b.lastFence() + 1
	for at := len(b.marks) - 1; at >= first; at-- {
		if b.nodes[b.marks[at]].Name == name {
			return at
		}
	}
	return -1
}

// raiseMarks opens again the marks at the end of the list that have been closed without an end of their own.
func (b *builder) raiseMarks() {
	from := len(b.marks)
	for from > 0 && b.marks[from-1] != fence && !slices.Contains(b.open, b.marks[from-1]) {
		from--
	}
	for at := from; at < len(b.marks); at++ {
		mark := b.nodes[b.marks[at]]
		b.marks[at] = b.putOpen(mark.Name, slices.Clone(mark.attrs))
	}
}

// endMark follows the end of a mark.
func (b *builder) endMark(name string) {
	at := b.lastMark(name)
	if at < 0 {
		return
	}
	inRow := slices.Index(b.open, b.marks[at])
	if inRow >= 0 && inRow < b.lastOpen("td", "table") {
		return
	}
	b.marks = slices.Delete(b.marks, at, at+1)
	if inRow >= 0 {
		b.closeFrom(inRow)
	}
}
