package syntax

import "rhizome/api"

func (r *reader) directives() []api.Directive {
	var l []api.Directive
	r.led("@", func() {
		name := r.name()
		l = append(l, api.Directive{Name: name, Args: r.args()})
	})
	return l
}

// args reads arguments, if there are any.
func (r *reader) args() []api.Arg {
	var l []api.Arg
	if r.take("(") {
		r.some(")", func() {
			name, v := r.member()
			l = append(l, api.Arg{Name: name, Value: v})
		})
	}
	return l
}

// member reads a name and its value: of an argument, or in an object.
func (r *reader) member() (string, api.Value) {
	name := r.name()
	r.need(r.take(":"))
	return name, r.value()
}

func (r *reader) value() api.Value {
	switch r.next().Kind {
	case api.TokName:
		return named(r.read())
	case api.TokInt:
		return api.Value{Kind: api.ValInt, Text: r.read()}
	case api.TokFloat:
		return api.Value{Kind: api.ValFloat, Text: r.read()}
	case api.TokText:
		return api.Value{Kind: api.ValText, Text: r.read()}
	}
	return r.signed()
}

// named is the value that a name is.
func named(word string) api.Value {
	switch word {
	case "null":
		return api.Value{Kind: api.ValNull}
	case "false":
		return api.Value{Kind: api.ValFalse}
	case "true":
		return api.Value{Kind: api.ValTrue}
	}
	return api.Value{Kind: api.ValEnum, Text: word}
}

// signed reads a value that begins with a punctuator.
func (r *reader) signed() api.Value {
	switch {
	case r.sees("["):
		return r.list()
	case r.sees("{"):
		return r.object()
	}
	r.need(!r.fixed)
	return api.Value{Kind: api.ValVar, Text: r.variable()}
}

func (r *reader) list() api.Value {
	x := api.Value{Kind: api.ValList}
	r.open(values, "[")
	r.any("]", func() { x.List = append(x.List, r.value()) })
	r.deep[values]--
	return x
}

func (r *reader) object() api.Value {
	x := api.Value{Kind: api.ValObject}
	r.open(values, "{")
	r.any("}", func() {
		name, v := r.member()
		x.Names = append(x.Names, name)
		x.List = append(x.List, v)
	})
	r.deep[values]--
	return x
}

// variable reads a variable, and is its name.
func (r *reader) variable() string {
	r.need(r.take("$"))
	return r.name()
}
