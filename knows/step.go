package knows

import (
	"slices"

	"ostiary/box"
)

// step is a way to derive a handle from others. A step with a result gives it when no handle is lacking. One without is that of a Turn, where all handles, its own among them, cancel out: the last one that is lacking follows from the others, whichever it is.
type step struct {
	handles []int
	lacking int
	result  int
}

// readTerms makes steps of the terms that are new in the box.
func (m *Mind) readTerms() {
	for m.read < m.box.Len() {
		m.read++
		t, _ := m.box.Term(m.read)
		m.readTerm(m.read, t)
	}
}

// readTerm makes a step of the term with number n. There is none if a secret would be needed.
func (m *Mind) readTerm(n int, t box.Term) {
	if t.Kind == box.Turn {
		m.add(&step{handles: append(t.List, n)})
		return
	}
	if m.plain(t.Key) && m.plain(t.Text) {
		m.add(&step{handles: sorted(append(Found(t.Key), Found(t.Text)...)), result: n})
	}
}

// add adds a step, and derives what it gives at once.
func (m *Mind) add(s *step) {
	for _, n := range s.handles {
		if m.lacks(n) {
			s.lacking++
			m.waiting[n] = append(m.waiting[n], s)
		}
	}
	m.derive(m.given(s)...)
}

// derive adds derivable handles, and all that follows from them.
func (m *Mind) derive(numbers ...int) {
	for len(numbers) > 0 {
		n := numbers[0]
		numbers = numbers[1:]
		m.made[n] = struct{}{}
		for _, s := range m.waiting[n] {
			s.lacking--
			numbers = append(numbers, m.given(s)...)
		}
		delete(m.waiting, n) // n is lacking nowhere any more, also if it follows again
	}
}

// given returns what a step gives now.
func (m *Mind) given(s *step) []int {
	switch {
	case s.result > 0 && s.lacking == 0:
		return []int{s.result}
	case s.result == 0 && s.lacking == 1:
		last := slices.IndexFunc(s.handles, m.lacks)
		return []int{s.handles[last]}
	}
	return nil
}
