package values_test

import (
	"math/big"
	"regexp"
	"strings"

	"rhizome/api"
	"rhizome/floats"
)

// The model asks each rule by itself, of lists of all that stands in a document; types are taken apart one sign at a time; what reaches what it keeps as a square of all fragments.

// modelSel is a selection, with the one around it, or, if there is none, the parent of its set.
type modelSel struct {
	api.Sel
	around *modelSel
	root   string
	in     int
}

// modelArg is a value that is an argument or, where no directive and no selection has it, a default value; in says where: from 0 on the operation's place, below 0 the fragment's.
type modelArg struct {
	value   api.Value
	types   []api.Ref // none, or one
	in      int
	counted bool // are variables used there?
}

type model struct {
	d    api.Doc
	defs []api.Def
	sels []*modelSel
	args []modelArg
}

func modelFrag(at int) int { return -1 - at }

// newModel takes selections out of a list to which what stands in them is put: no call within a call.
func newModel(d api.Doc, defs []api.Def) *model {
	m := &model{d: d, defs: defs}
	for i, x := range d.Ops {
		m.directives(x.Directives, i, true)
		for _, v := range x.Vars {
			m.directives(v.Directives, i, false)
			if v.Has {
				m.args = append(m.args, modelArg{v.Default, []api.Ref{v.Type}, i, false})
			}
		}
		for _, s := range x.Sels {
			m.sels = append(m.sels, &modelSel{Sel: s, root: map[int]string{api.OpQuery: "Query", api.OpMutation: "Mutation"}[x.Kind], in: i})
		}
	}
	for i, x := range d.Frags {
		m.directives(x.Directives, modelFrag(i), true)
		for _, s := range x.Sels {
			m.sels = append(m.sels, &modelSel{Sel: s, root: x.On, in: modelFrag(i)})
		}
	}
	for i := 0; i < len(m.sels); i++ {
		x := m.sels[i]
		for _, s := range x.Sels {
			m.sels = append(m.sels, &modelSel{Sel: s, around: x, in: x.in})
		}
		m.directives(x.Directives, x.in, true)
		var ins []api.In
		if out := m.out(x); out != nil {
			ins = out.Args
		}
		m.arguments(x.Args, ins, x.in, true)
	}
	return m
}

func (m *model) directives(l []api.Directive, in int, counted bool) {
	for _, x := range l {
		var ins []api.In
		if x.Name == "skip" || x.Name == "include" {
			ins = []api.In{{Name: "if", Type: api.Ref{Name: "Boolean", Wraps: "!"}}}
		}
		m.arguments(x.Args, ins, in, counted)
	}
}

func (m *model) arguments(l []api.Arg, ins []api.In, in int, counted bool) {
	for _, x := range l {
		m.args = append(m.args, modelArg{x.Value, modelIn(ins, x.Name), in, counted})
	}
}

// modelIn is the type of the first of a name, if there is one.
func modelIn(l []api.In, name string) []api.Ref {
	for _, x := range l {
		if x.Name == name {
			return []api.Ref{x.Type}
		}
	}
	return nil
}

// parent is that of the set in which a selection stands.
func (m *model) parent(x *modelSel) string {
	switch {
	case x.around == nil:
		return x.root
	case x.around.Kind == api.SelField:
		if out := m.out(x.around); out != nil {
			return out.Type.Name
		}
	case x.around.Kind == api.SelInline && x.around.On == "":
		return m.parent(x.around)
	case x.around.Kind == api.SelInline:
		return x.around.On
	}
	return ""
}

// out is a field's, or nil.
func (m *model) out(x *modelSel) *api.Out {
	d := modelDef(m.defs, m.parent(x))
	if x.Kind != api.SelField || d == nil || d.Kind != api.DefObject {
		return nil
	}
	if x.Name == "__typename" {
		return &api.Out{Name: "__typename", Type: api.Ref{Name: "String", Wraps: "!"}}
	}
	for i := range d.Outs {
		if d.Outs[i].Name == x.Name {
			return &d.Outs[i]
		}
	}
	return nil
}

// modelDef is a name's definition, or nil.
func modelDef(defs []api.Def, name string) *api.Def {
	for i := range defs {
		if defs[i].Name == name {
			if defs[i].Kind < 0 {
				return nil
			}
			return &defs[i]
		}
	}
	return nil
}

// modelEnds: is this sign a type's end?
func modelEnds(t api.Ref, sign string) bool { return strings.HasSuffix(t.Wraps, sign) }

func modelLess(t api.Ref) api.Ref {
	return api.Ref{Name: t.Name, Wraps: t.Wraps[:len(t.Wraps)-1]}
}

// modelFits are the chapter's five steps.
func modelFits(v api.Value, t api.Ref, defs []api.Def) bool {
	if v.Kind == api.ValVar {
		return true
	}
	if modelEnds(t, "!") {
		return v.Kind != api.ValNull && modelFits(v, modelLess(t), defs)
	}
	if v.Kind == api.ValNull {
		return true
	}
	if modelEnds(t, "[") {
		if v.Kind != api.ValList {
			return modelFits(v, modelLess(t), defs)
		}
		for _, x := range v.List {
			if !modelFits(x, modelLess(t), defs) {
				return false
			}
		}
		return true
	}
	d := modelDef(defs, t.Name)
	if d == nil {
		return true
	}
	switch d.Kind {
	case api.DefScalar:
		return modelScalar(v, t.Name)
	case api.DefEnum:
		for _, x := range d.Words {
			if v.Kind == api.ValEnum && v.Text == x {
				return true
			}
		}
		return false
	case api.DefInput:
		for i := 0; i < len(v.Names) && i < len(v.List); i++ {
			for _, at := range modelIn(d.Ins, v.Names[i]) {
				if !modelFits(v.List[i], at, defs) {
					return false
				}
			}
		}
		return v.Kind == api.ValObject
	}
	return true
}

var modelInt = regexp.MustCompile(`^-?(0|[1-9][0-9]*)$`)

func modelScalar(v api.Value, name string) bool {
	_, e := floats.Parse(v.Text)
	switch name {
	case "Int":
		if v.Kind != api.ValInt || len(v.Text) > 64 || !modelInt.MatchString(v.Text) {
			return false
		}
		n, _ := new(big.Int).SetString(v.Text, 10)
		return n.Cmp(big.NewInt(-2147483648)) >= 0 && n.Cmp(big.NewInt(2147483647)) <= 0
	case "Float":
		return (v.Kind == api.ValInt || v.Kind == api.ValFloat) && e == api.OK
	case "String":
		return v.Kind == api.ValText
	case "Boolean":
		return v.Kind == api.ValFalse || v.Kind == api.ValTrue
	case "ID":
		return v.Kind == api.ValText || v.Kind == api.ValInt
	}
	return false
}

// modelLie is a value, and a type at which it lies.
type modelLie struct {
	value api.Value
	at    api.Ref
}

// modelLies are a value and those within it, with all types at which they lie.
func modelLies(v api.Value, t api.Ref, defs []api.Def) []modelLie {
	l := []modelLie{{v, t}}
	switch {
	case v.Kind == api.ValVar:
	case modelEnds(t, "!"), modelEnds(t, "[") && v.Kind != api.ValList:
		l = append(l, modelLies(v, modelLess(t), defs)...)
	case modelEnds(t, "["):
		for _, x := range v.List {
			l = append(l, modelLies(x, modelLess(t), defs)...)
		}
	case v.Kind == api.ValObject:
		d := modelDef(defs, t.Name)
		for i := 0; i < len(v.Names) && i < len(v.List); i++ {
			if d != nil && d.Kind == api.DefInput {
				for _, at := range modelIn(d.Ins, v.Names[i]) {
					l = append(l, modelLies(v.List[i], at, defs)...)
				}
			}
		}
	}
	return l
}

// modelGoes: does one type go for another one?
func modelGoes(v, t api.Ref) bool {
	if modelEnds(t, "!") {
		return modelEnds(v, "!") && modelGoes(modelLess(v), modelLess(t))
	}
	if modelEnds(v, "!") {
		return modelGoes(modelLess(v), t)
	}
	if modelEnds(v, "[") || modelEnds(t, "[") {
		return modelEnds(v, "[") && modelEnds(t, "[") && modelGoes(modelLess(v), modelLess(t))
	}
	return v.Name == t.Name
}

// lies are all of a document, with the arguments in which they stand.
func (m *model) lies(ask func(modelLie, modelArg) bool) bool {
	for _, x := range m.args {
		for _, t := range x.types {
			for _, y := range modelLies(x.value, t, m.defs) {
				if ask(y, x) {
					return true
				}
			}
		}
	}
	return false
}

func (m *model) valueType() bool {
	for _, x := range m.args {
		for _, t := range x.types {
			if !modelFits(x.value, t, m.defs) {
				return true
			}
		}
	}
	return false
}

// input is the definition of what an object lies at, or nil.
func (m *model) input(x modelLie) *api.Def {
	d := modelDef(m.defs, x.at.Name)
	if modelEnds(x.at, "!") || modelEnds(x.at, "[") || x.value.Kind != api.ValObject || d == nil || d.Kind != api.DefInput {
		return nil
	}
	return d
}

func (m *model) inputNone() bool {
	return m.lies(func(x modelLie, _ modelArg) bool {
		if d := m.input(x); d != nil {
			for _, name := range x.value.Names {
				if modelIn(d.Ins, name) == nil {
					return true
				}
			}
		}
		return false
	})
}

func (m *model) inputNeed() bool {
	return m.lies(func(x modelLie, _ modelArg) bool {
		if d := m.input(x); d != nil {
			for _, in := range d.Ins {
				there := false
				for _, name := range x.value.Names {
					there = there || name == in.Name
				}
				if modelEnds(in.Type, "!") && !there {
					return true
				}
			}
		}
		return false
	})
}

// modelParts are a value and all within it.
func modelParts(v api.Value) []api.Value {
	l := []api.Value{v}
	for i := 0; i < len(l); i++ {
		l = append(l, l[i].List...)
	}
	return l
}

func (m *model) inputTwice() bool {
	for _, x := range m.args {
		for _, v := range modelParts(x.value) {
			for i := range v.Names {
				for j := range i {
					if v.Kind == api.ValObject && v.Names[i] == v.Names[j] {
						return true
					}
				}
			}
		}
	}
	return false
}

func (m *model) varTwice() bool {
	for _, x := range m.d.Ops {
		for i := range x.Vars {
			for j := range x.Vars {
				if i != j && x.Vars[i].Name == x.Vars[j].Name {
					return true
				}
			}
		}
	}
	return false
}

func (m *model) varType() bool {
	for _, x := range m.d.Ops {
		for _, v := range x.Vars {
			if d := modelDef(m.defs, v.Type.Name); d == nil || d.Kind == api.DefObject {
				return true
			}
		}
	}
	return false
}

// frag is the place of the fragment of a name, or -1.
func (m *model) frag(name string) int {
	for i, x := range m.d.Frags {
		if x.Name == name {
			return i
		}
	}
	return -1
}

// reach says of an operation which places belong to it: its own, and those of the fragments that it reaches, by way of a square that says of each two fragments whether the one reaches the other.
func (m *model) reach(op int) map[int]bool {
	n := len(m.d.Frags)
	to := make([][]bool, n)
	for i := range to {
		to[i] = make([]bool, n)
	}
	for _, s := range m.sels {
		if at := m.frag(s.Name); s.Kind == api.SelSpread && s.in < 0 && at >= 0 {
			to[modelFrag(s.in)][at] = true
		}
	}
	for over := range to {
		for i := range to {
			for j := range to {
				to[i][j] = to[i][j] || to[i][over] && to[over][j]
			}
		}
	}
	there := map[int]bool{op: true}
	for _, s := range m.sels {
		if at := m.frag(s.Name); s.Kind == api.SelSpread && s.in == op && at >= 0 {
			there[modelFrag(at)] = true
			for j, is := range to[at] {
				if is {
					there[modelFrag(j)] = true
				}
			}
		}
	}
	return there
}

// used are the names of the variables that an operation uses.
func (m *model) used(op int) map[string]bool {
	names := map[string]bool{}
	there := m.reach(op)
	for _, x := range m.args {
		for _, v := range modelParts(x.value) {
			if x.counted && there[x.in] && v.Kind == api.ValVar {
				names[v.Text] = true
			}
		}
	}
	return names
}

// defined is the first variable of a name that an operation defines, or nil.
func (m *model) defined(op int, name string) *api.Var {
	l := m.d.Ops[op].Vars
	for i := range l {
		if l[i].Name == name {
			return &l[i]
		}
	}
	return nil
}

func (m *model) varNone() bool {
	for op := range m.d.Ops {
		for name := range m.used(op) {
			if m.defined(op, name) == nil {
				return true
			}
		}
	}
	return false
}

func (m *model) varUnused() bool {
	for op, x := range m.d.Ops {
		used := m.used(op)
		for _, v := range x.Vars {
			if !used[v.Name] {
				return true
			}
		}
	}
	return false
}

func (m *model) varWhere() bool {
	for op := range m.d.Ops {
		there := m.reach(op)
		if m.lies(func(x modelLie, a modelArg) bool {
			v := m.defined(op, x.value.Text)
			if x.value.Kind != api.ValVar || !a.counted || !there[a.in] || v == nil {
				return false
			}
			at := x.at
			if modelEnds(at, "!") && !modelEnds(v.Type, "!") && v.Has && v.Default.Kind != api.ValNull {
				at = modelLess(at)
			}
			return !modelGoes(v.Type, at)
		}) {
			return true
		}
	}
	return false
}

// modelCheck are the rules that are broken.
func modelCheck(d api.Doc, defs []api.Def) []api.Errno {
	m := newModel(d, defs)
	var l []api.Errno
	for i, rule := range []func() bool{m.valueType, m.inputNone, m.inputTwice, m.inputNeed, m.varTwice, m.varType, m.varNone, m.varUnused, m.varWhere} {
		if rule() {
			l = append(l, api.ErrValueType+api.Errno(i))
		}
	}
	return l
}
