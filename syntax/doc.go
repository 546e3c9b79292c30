package syntax

import "rhizome/api"

func (r *reader) doc() api.Doc {
	var d api.Doc
	r.some(end, func() {
		if r.takeWord("fragment") {
			d.Frags = append(d.Frags, r.frag())
		} else {
			d.Ops = append(d.Ops, r.op())
		}
	})
	return d
}

// frag reads a fragment behind its first word.
func (r *reader) frag() api.Frag {
	var f api.Frag
	r.need(!r.seesWord("on"))
	f.Name = r.name()
	r.need(r.takeWord("on"))
	f.On = r.name()
	f.Directives = r.directives()
	f.Sels = r.set()
	return f
}

func (r *reader) op() api.Op {
	var o api.Op
	if r.sees("{") {
		o.Sels = r.set()
		return o
	}
	o.Kind = r.opKind()
	if r.seesKind(api.TokName) {
		o.Name = r.name()
	}
	o.Vars = r.vars()
	o.Directives = r.directives()
	o.Sels = r.set()
	return o
}

func (r *reader) opKind() int {
	switch {
	case r.takeWord("query"):
		return api.OpQuery
	case r.takeWord("mutation"):
		return api.OpMutation
	case r.takeWord("subscription"):
		return api.OpSubscription
	}
	panic(r.fault(api.ErrSyntax))
}

// vars reads the variables' definitions, if there are any.
func (r *reader) vars() []api.Var {
	var l []api.Var
	if r.take("(") {
		r.fixed = true
		r.some(")", func() { l = append(l, r.varDef()) })
		r.fixed = false
	}
	return l
}

func (r *reader) varDef() api.Var {
	var v api.Var
	v.Name = r.variable()
	r.need(r.take(":"))
	v.Type = r.ref()
	if r.take("=") {
		v.Has = true
		v.Default = r.value()
	}
	v.Directives = r.directives()
	return v
}

// ref reads a type: what is around a name is told from within outwards.
func (r *reader) ref() api.Ref {
	var x api.Ref
	if r.sees("[") {
		r.open(types, "[")
		x = r.ref()
		r.need(r.take("]"))
		r.deep[types]--
		x.Wraps += "["
	} else {
		x.Name = r.name()
	}
	if r.take("!") {
		x.Wraps += "!"
	}
	return x
}

func (r *reader) set() []api.Sel {
	var l []api.Sel
	r.open(sets, "{")
	r.some("}", func() { l = append(l, r.sel()) })
	r.deep[sets]--
	return l
}

func (r *reader) sel() api.Sel {
	switch {
	case !r.take("..."):
		return r.field()
	case r.seesKind(api.TokName) && !r.seesWord("on"):
		return r.spread()
	}
	return r.inline()
}

func (r *reader) field() api.Sel {
	x := api.Sel{Kind: api.SelField, Name: r.name()}
	if r.take(":") {
		x.Alias = x.Name
		x.Name = r.name()
	}
	x.Args = r.args()
	x.Directives = r.directives()
	if r.sees("{") {
		x.Sels = r.set()
	}
	return x
}

// spread reads a fragment's use behind its dots.
func (r *reader) spread() api.Sel {
	x := api.Sel{Kind: api.SelSpread, Name: r.name()}
	x.Directives = r.directives()
	return x
}

// inline reads an inline fragment behind its dots.
func (r *reader) inline() api.Sel {
	x := api.Sel{Kind: api.SelInline}
	if r.takeWord("on") {
		x.On = r.name()
	}
	x.Directives = r.directives()
	x.Sels = r.set()
	return x
}
