package print

import (
	"slices"

	"rhizome/api"
	"rhizome/syntax"
)

// writer writes trees as tokens. Its methods tell whether what they are handed may be written, and leave off where it may not.
type writer struct {
	put   func(token string) bool
	fixed bool // within a variable's definition: no value has a variable in it
}

// all writes each of a list.
func all[T any](l []T, one func(T) bool) bool {
	for _, x := range l {
		if !one(x) {
			return false
		}
	}
	return true
}

// within writes each of a list between two punctuators.
func within[T any](put func(token string) bool, first string, l []T, one func(T) bool, last string) bool {
	return put(first) && all(l, one) && put(last)
}

// name writes a name that is none of those that may not be.
func (w writer) name(s string, but ...string) bool {
	return syntax.Name(s) && !slices.Contains(but, s) && w.put(s)
}

func (w writer) doc(d api.Doc) bool {
	return len(d.Ops)+len(d.Frags) > 0 && all(d.Ops, w.op) && all(d.Frags, w.frag)
}

func (w writer) op(x api.Op) bool {
	if x.Kind == api.OpQuery && x.Name == "" && len(x.Vars)+len(x.Directives) == 0 {
		return w.set(x.Sels)
	}
	return w.opKind(x.Kind) && (x.Name == "" || w.name(x.Name)) && w.vars(x.Vars) && w.directives(x.Directives) && w.set(x.Sels)
}

func (w writer) opKind(kind int) bool {
	switch kind {
	case api.OpQuery:
		return w.put("query")
	case api.OpMutation:
		return w.put("mutation")
	case api.OpSubscription:
		return w.put("subscription")
	}
	return false
}

func (w writer) frag(x api.Frag) bool {
	return w.put("fragment") && w.name(x.Name, "on") && w.on(x.On) && w.directives(x.Directives) && w.set(x.Sels)
}

// on writes the type that a fragment is of.
func (w writer) on(name string) bool { return w.put("on") && w.name(name) }

// vars writes variables' definitions, if there are any.
func (w writer) vars(l []api.Var) bool {
	fixed := writer{put: w.put, fixed: true}
	return len(l) == 0 || within(w.put, "(", l, fixed.varDef, ")")
}

func (w writer) varDef(x api.Var) bool {
	return w.variable(x.Name) && w.put(":") && w.ref(x.Type) && w.defaultOf(x) && w.directives(x.Directives)
}

func (w writer) defaultOf(x api.Var) bool {
	if x.Has {
		return w.put("=") && w.value(x.Default)
	}
	return isZero(x.Default)
}

// ref writes a type: the last of its wraps is the outermost.
func (w writer) ref(x api.Ref) bool {
	last := len(x.Wraps) - 1
	if last < 0 {
		return w.name(x.Name)
	}
	inner := api.Ref{Name: x.Name, Wraps: x.Wraps[:last]}
	switch x.Wraps[last] {
	case '[':
		return w.put("[") && w.ref(inner) && w.put("]")
	case '!':
		return (last == 0 || x.Wraps[last-1] != '!') && w.ref(inner) && w.put("!")
	}
	return false
}

func (w writer) directives(l []api.Directive) bool { return all(l, w.directive) }

func (w writer) directive(x api.Directive) bool {
	return w.put("@") && w.name(x.Name) && w.args(x.Args)
}

// args writes arguments, if there are any.
func (w writer) args(l []api.Arg) bool { return len(l) == 0 || within(w.put, "(", l, w.arg, ")") }

func (w writer) arg(x api.Arg) bool { return w.name(x.Name) && w.put(":") && w.value(x.Value) }

func (w writer) set(l []api.Sel) bool { return len(l) > 0 && within(w.put, "{", l, w.sel, "}") }

func (w writer) sel(x api.Sel) bool {
	switch x.Kind {
	case api.SelField:
		return x.On == "" && w.field(x)
	case api.SelSpread:
		return x.Alias+x.On == "" && len(x.Args)+len(x.Sels) == 0 && w.spread(x)
	case api.SelInline:
		return x.Alias+x.Name == "" && len(x.Args) == 0 && w.inline(x)
	}
	return false
}

func (w writer) field(x api.Sel) bool {
	return (x.Alias == "" || w.name(x.Alias) && w.put(":")) && w.name(x.Name) && w.args(x.Args) && w.directives(x.Directives) && (len(x.Sels) == 0 || w.set(x.Sels))
}

func (w writer) spread(x api.Sel) bool {
	return w.put("...") && w.name(x.Name, "on") && w.directives(x.Directives)
}

func (w writer) inline(x api.Sel) bool {
	return w.put("...") && (x.On == "" || w.on(x.On)) && w.directives(x.Directives) && w.set(x.Sels)
}
