package samples

import "rhizome/api"

// Schema is a schema that may be written, of about as many tokens as are left; what it names need not be there.
func (m *Trees) Schema() api.Schema {
	var s api.Schema
	for range 1 + m.many(5, 10) {
		if m.Pick(3) == 0 {
			s.Enums = append(s.Enums, m.enum())
		} else {
			s.Objects = append(s.Objects, m.object())
		}
	}
	return s
}

func (m *Trees) object() api.Object {
	x := api.Object{Name: m.schemaName()}
	for range 1 + m.many(5, 8) {
		x.Fields = append(x.Fields, m.schemaField())
	}
	return x
}

func (m *Trees) enum() api.Enum {
	x := api.Enum{Name: m.schemaName()}
	for range 1 + m.many(5, 1) {
		x.Words = append(x.Words, m.pickOf("A B type enum search hasInverse field True NULL _"))
	}
	return x
}

func (m *Trees) schemaName() string {
	return m.pickOf("a b T Int type enum search hasInverse field true false null _1")
}

func (m *Trees) schemaField() api.Field {
	f := api.Field{Name: m.schemaName(), Type: api.Ref{Name: m.schemaName()}, Search: m.Pick(2) == 0}
	f.Type.Wraps = []string{"", "!", "[", "[!", "![", "![!"}[m.Pick(6)]
	if m.Pick(2) == 0 {
		f.Inverse = m.schemaName()
	}
	return f
}
