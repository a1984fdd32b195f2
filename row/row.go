// Package row: the elements that a peer ever had, in order, the dead ones too.
package row

import (
	"slices"
	"strings"

	"chorus/operation"
)

// element stays in the row when it is dead: others may still go behind it.
type element struct {
	name operation.Name
	char rune
	dead bool
}

// Row is empty as its zero value.
type Row struct {
	elements []element
}

// Text tells the characters of the elements that are not dead.
func (r *Row) Text() string {
	var text strings.Builder
	for _, e := range r.elements {
		if !e.dead {
			text.WriteRune(e.char)
		}
	}
	return text.String()
}

// NameAt tells the name of the text's character number at, and whether there is one.
func (r *Row) NameAt(at int) (operation.Name, bool) {
	ahead := 0
	for _, e := range r.elements {
		if e.dead {
			continue
		}
		if ahead == at {
			return e.name, true
		}
		ahead++
	}
	return operation.Name{}, false
}

// Insert puts an element in behind another one, as P8 says.
func (r *Row) Insert(name, behind operation.Name, char rune) {
	place, found := r.placeBehind(behind)
	if _, twice := r.find(name); twice || !found {
		return
	}
	for place < len(r.elements) && r.elements[place].name.Greater(name) {
		place++
	}
	r.elements = slices.Insert(r.elements, place, element{name: name, char: char})
}

// Kill makes an element dead, if the row has it.
func (r *Row) Kill(name operation.Name) {
	if place, found := r.find(name); found {
		r.elements[place].dead = true
	}
}

func (r *Row) placeBehind(behind operation.Name) (int, bool) {
	if behind == (operation.Name{}) {
		return 0, true
	}
	place, found := r.find(behind)
	return place + 1, found
}

func (r *Row) find(name operation.Name) (int, bool) {
	place := slices.IndexFunc(r.elements, func(e element) bool { return e.name == name })
	return place, place >= 0
}
