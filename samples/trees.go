package samples

import (
	"strings"

	"rhizome/api"
)

// Trees makes trees that may be documents', of a number: of one number the same trees in each run.
type Trees struct {
	numbers []uint64
	left    int // about how many tokens they may still have
}

// NewTrees makes trees of about that many tokens in all.
func NewTrees(x uint64, tokens int) *Trees {
	return &Trees{numbers: []uint64{x, ^x, x * 3}, left: tokens}
}

// Pick is a number below n.
func (m *Trees) Pick(n int) int {
	x := m.numbers[0]
	m.numbers = append(m.numbers[1:], x*6364136223846793005+1442695040888963407)
	return int(x >> 33 % uint64(n))
}

// pickOf is one of the words of a text.
func (m *Trees) pickOf(words string) string {
	l := strings.Fields(words)
	return l[m.Pick(len(l))]
}

// many is how many there are of what costs so many tokens: none, if all is large already.
func (m *Trees) many(most, cost int) int {
	if m.left < 0 {
		return 0
	}
	n := m.Pick(most + 1)
	m.left -= n * cost
	return n
}

// Op is an operation.
func (m *Trees) Op() api.Op {
	x := api.Op{Sels: m.sels(5)}
	if m.Pick(2) == 0 {
		x = api.Op{Kind: m.Pick(api.OpKinds), Vars: m.vars(), Directives: m.directives(false), Sels: x.Sels}
	}
	if m.Pick(2) == 0 {
		x.Name = m.name()
	}
	return x
}

// Frag is a fragment.
func (m *Trees) Frag() api.Frag {
	return api.Frag{Name: m.fragName(), On: m.name(), Directives: m.directives(false), Sels: m.sels(5)}
}

// Value is a value with at most so many others around one; a fixed one has no variable in it.
func (m *Trees) Value(deep int, fixed bool) api.Value {
	kind := m.Pick(api.ValKinds)
	v := api.Value{Kind: kind}
	switch {
	case kind == api.ValVar && !fixed:
		v.Text = m.name()
	case kind == api.ValInt:
		v.Text = m.pickOf("0 -1 12")
	case kind == api.ValFloat:
		v.Text = m.pickOf("0.0 -1e5 1.5E-3")
	case kind == api.ValText:
		v.Text = []string{"", "{", "on", "a\n\"b\"", "é"}[m.Pick(5)]
	case kind == api.ValEnum:
		v.Text = m.pickOf("A on query NULL")
	case kind >= api.ValList && deep > 0:
		for range m.many(3, 3) {
			v.List = append(v.List, m.Value(deep-1, fixed))
			if kind == api.ValObject {
				v.Names = append(v.Names, m.name())
			}
		}
	case kind > api.ValTrue:
		v.Kind = api.ValNull
	}
	return v
}

func (m *Trees) name() string {
	return m.pickOf("a b c on query mutation subscription fragment null true false _1 T")
}

// fragName is a name but `on`.
func (m *Trees) fragName() string { return strings.ReplaceAll(m.name(), "on", "f") }

func (m *Trees) args(fixed bool) []api.Arg {
	var l []api.Arg
	for range m.many(2, 3) {
		l = append(l, api.Arg{Name: m.name(), Value: m.Value(4, fixed)})
	}
	return l
}

func (m *Trees) directives(fixed bool) []api.Directive {
	var l []api.Directive
	for range m.many(2, 2) {
		l = append(l, api.Directive{Name: m.name(), Args: m.args(fixed)})
	}
	return l
}

func (m *Trees) vars() []api.Var {
	var l []api.Var
	for range m.many(3, 5) {
		v := api.Var{Name: m.name(), Type: api.Ref{Name: m.name(), Wraps: m.pickOf("! [ ![ [! ![! [[ [![! ![[ ![![!")}}
		if m.Pick(3) == 0 {
			v.Type.Wraps = ""
		}
		if m.Pick(2) == 0 {
			v.Has, v.Default = true, m.Value(4, true)
		}
		v.Directives = m.directives(true)
		l = append(l, v)
	}
	return l
}

// sels is one selection or more.
func (m *Trees) sels(deep int) []api.Sel {
	var l []api.Sel
	for range 1 + m.many(3, 4) {
		x := api.Sel{Kind: m.Pick(api.SelKinds), Directives: m.directives(false)}
		if deep == 0 {
			x.Kind = api.SelSpread
		}
		switch x.Kind {
		case api.SelField:
			m.field(&x, deep)
		case api.SelSpread:
			x.Name = m.fragName()
		case api.SelInline:
			if m.Pick(2) == 0 {
				x.On = m.name()
			}
			x.Sels = m.sels(deep - 1)
		}
		l = append(l, x)
	}
	return l
}

func (m *Trees) field(x *api.Sel, deep int) {
	x.Name = m.name()
	if m.Pick(2) == 0 {
		x.Alias = m.name()
	}
	x.Args = m.args(false)
	if m.Pick(2) == 0 {
		x.Sels = m.sels(deep - 1)
	}
}
