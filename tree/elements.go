package tree

import "thatch/api"

// isVoid tells whether elements of a name hold nothing.
func isVoid(name string) bool {
	switch name {
	case "br", "hr", "img":
		return true
	}
	return false
}

func isMark(name string) bool {
	switch name {
	case "b", "i", "u":
		return true
	}
	return false
}

func isBlock(name string) bool {
	switch name {
	case "p", "ul", "li", "div", "table":
		return true
	}
	return false
}

// isGrid tells whether elements of a name hold only some nodes, so that others are put elsewhere.
func isGrid(name string) bool {
	return name == "table" || name == "tr"
}

// fitsGrid tells whether a node may stand in a table or a tr, of the name grid.
func fitsGrid(n node, grid string) bool {
	switch {
	case n.Kind == api.Comment:
		return true
	case n.Kind == api.Element:
		return grid == "table" && n.Name == "tr" || grid == "tr" && n.Name == "td"
	}
	return false
}
