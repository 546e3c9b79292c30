package samples

import (
	"strings"

	"rhizome/api"
)

// Schema is a schema that may be written, of about as many tokens as are left; what it names need not be there.
func (m *Trees) Schema() api.Schema {
	var s api.Schema
	for range 1 + m.many(5, 10) {
		if m.Pick(3) == 0 {
			s.Enums = append(s.Enums, m.enum())
		} else {
			s.Objects = append(s.Objects, m.object())
		}
	}
	return s
}

func (m *Trees) object() api.Object {
	x := api.Object{Name: m.schemaName()}
	for range 1 + m.many(5, 8) {
		x.Fields = append(x.Fields, m.schemaField())
	}
	return x
}

func (m *Trees) enum() api.Enum {
	x := api.Enum{Name: m.schemaName()}
	for range 1 + m.many(5, 1) {
		x.Words = append(x.Words, m.pickOf("A B type enum search hasInverse field True NULL _"))
	}
	return x
}

func (m *Trees) schemaName() string {
	return m.pickOf("a b T Int type enum search hasInverse field true false null _1")
}

func (m *Trees) schemaField() api.Field {
	f := api.Field{Name: m.schemaName(), Type: api.Ref{Name: m.schemaName()}, Search: m.Pick(2) == 0}
	f.Type.Wraps = []string{"", "!", "[", "[!", "![", "![!"}[m.Pick(6)]
	if m.Pick(2) == 0 {
		f.Inverse = m.schemaName()
	}
	return f
}

// Allowed is a schema that breaks no rule of package schema, of any number of objects, enums, fields and words that there may be.
func (m *Trees) Allowed() api.Schema {
	objects, enums := 1+m.Pick(api.MaxObjects), m.Pick(api.MaxEnums+1)
	names := m.pickSome(objects+enums, "T U V W E F Node Ad add Pat patches Orders Filtered Orderables query Id int Type _ _1 a Abcdefghijklmnopqrstuvwx")
	var s api.Schema
	for _, name := range names[objects:] {
		s.Enums = append(s.Enums, api.Enum{Name: name, Words: m.pickSome(1+m.Pick(api.MaxWords), "A B C D E F id and or not True NULL T Int Query AddT _ _0 TOrder abcdefghijklmnopqrstuvwx")})
	}
	for _, name := range names[:objects] {
		x := api.Object{Name: name}
		for _, field := range m.pickSome(1+m.Pick(api.MaxFields), "a b c d e T E Int Query Add order filter true null ID _ _0 Not abcdefghijklmnopqrstuvwx") {
			x.Fields = append(x.Fields, m.allowedField(field, names[:objects], names[objects:]))
		}
		s.Objects = append(s.Objects, x)
	}
	m.leadBack(s)
	return s
}

// allowedField is a field that may be, without an Inverse.
func (m *Trees) allowedField(name string, objects, enums []string) api.Field {
	f := api.Field{Name: name}
	if m.Pick(2) == 0 {
		f.Type = api.Ref{Name: objects[m.Pick(len(objects))], Wraps: []string{"", "![!"}[m.Pick(2)]}
		return f
	}
	f.Type = api.Ref{Name: m.pickOf("Int Float String Boolean"), Wraps: []string{"", "!"}[m.Pick(2)]}
	f.Search = m.Pick(2) == 0
	if len(enums) > 0 && m.Pick(3) == 0 {
		f.Type.Name = enums[m.Pick(len(enums))]
	}
	return f
}

// leadBack gives some edges an Inverse, two by two or one by itself.
func (m *Trees) leadBack(s api.Schema) {
	for _, x := range s.Objects {
		for i := range x.Fields {
			for _, y := range s.Objects {
				f, g := &x.Fields[i], &y.Fields[m.Pick(len(y.Fields))]
				if f.Type.Name == y.Name && g.Type.Name == x.Name && f.Inverse == "" && g.Inverse == "" {
					f.Inverse, g.Inverse = g.Name, f.Name
				}
			}
		}
	}
}

// pickSome is n of the words of a text, each once.
func (m *Trees) pickSome(n int, words string) []string {
	l := strings.Fields(words)
	for i := range n {
		j := i + m.Pick(len(l)-i)
		l[i], l[j] = l[j], l[i]
	}
	return append([]string{}, l[:n]...)
}
