package venue

import "slices"

// act: what an act has changed, as functions that put it back. Each leans on all that was changed behind it
// being put back already.
type act []func()

// begin opens an act and writes its line: what is noted from now on belongs to it.
func (v *Venue) begin(line string) {
	v.write(line)
	v.acts = append(v.acts, nil)
}

// note keeps functions that put back what the act has just changed.
func (v *Venue) note(backs ...func()) {
	last := len(v.acts) - 1
	v.acts[last] = append(v.acts[last], backs...)
}

// putBack lets all be as it was ahead of the act; what it told is answered on the tape.
func (a act) putBack() {
	for _, back := range slices.Backward(a) {
		back()
	}
}
