package merge

// The ways in which two fields meet. Of those that meet wholly all is asked that is asked of those that meet by shape, so that of two ways the greater one is enough.
const (
	byShape = iota + 1
	wholly
)

// meeting is two sets, by their numbers, the lesser one first: each field of the one meets each of the other that has its response name.
type meeting struct{ one, other int }

// meetings go from sets to sets, not from fields to fields: however many fields lead to the same two, these are gone over once in each way.
type meetings struct {
	table
	ways map[meeting]int
	open []meeting // those that are still to be gone over
}

// mergeAll: may all fields that meet be merged?
func (m *meetings) mergeAll() bool {
	for at := range len(m.sets) {
		m.meet(at, at, wholly)
	}
	for len(m.open) > 0 {
		x := m.open[len(m.open)-1]
		m.open = m.open[:len(m.open)-1]
		if !m.mergeSets(x) {
			return false
		}
	}
	return true
}

// meet opens a meeting, unless it is known in this way or in one that asks more.
func (m *meetings) meet(one, other, way int) {
	x := meeting{min(one, other), max(one, other)}
	if m.ways[x] < way {
		m.ways[x] = way
		m.open = append(m.open, x)
	}
}

// mergeSets: may the fields of two sets that meet be merged? What the one spreads meets the other one, too.
func (m *meetings) mergeSets(x meeting) bool {
	way := m.ways[x]
	one, other := m.sets[x.one], m.sets[x.other]
	for to := range one.spreads {
		m.meet(to, x.other, way)
	}
	for to := range other.spreads {
		m.meet(x.one, to, way)
	}
	// Many small sets may meet a great one: only the lesser is gone over.
	few, many := one.fields, other.fields
	if len(few) > len(many) {
		few, many = many, few
	}
	for answer, l := range few {
		if !m.mergeLists(l, many[answer], way) {
			return false
		}
	}
	return true
}

// mergeLists: may each of these fields be merged with each of those?
func (m *meetings) mergeLists(these, those []int, way int) bool {
	for i := range len(these) {
		for j := range len(those) {
			if !m.mergeTwo(these[i], those[j], way) {
				return false
			}
		}
	}
	return true
}

// mergeTwo: may two fields that meet be merged? What stands in the one meets what stands in the other, too.
func (m *meetings) mergeTwo(x, y, way int) bool {
	f, g := &m.fields[x], &m.fields[y]
	switch {
	case x == y:
		return true
	case f.HasOut && g.HasOut && f.shape != g.shape:
		return false
	case !atOne(f, g):
		way = byShape
	case way == wholly && !alike(f.Sel, g.Sel):
		return false
	}
	if f.own != none && g.own != none {
		m.meet(f.own, g.own, way)
	}
	return true
}

func atOne(f, g *field) bool { return f.Parent == g.Parent || !f.object || !g.object }
