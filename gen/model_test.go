package gen_test

import (
	"strings"

	"rhizome/api"
)

// The model writes the chapter's list as lines of text, with the names put in, and reads the definitions out of them.
//
// A line is a kind, a name, and behind ":" what the definition has, each behind ";": a word; an input's field `name type`; an object's `name type`, with an argument `name type` behind each ",".

var modelKinds = map[string]int{"scalar": api.DefScalar, "enum": api.DefEnum, "object": api.DefObject, "input": api.DefInput}

// modelType is the type that a text writes.
func modelType(text string) api.Ref {
	if in, ok := strings.CutSuffix(text, "!"); ok {
		r := modelType(in)
		return api.Ref{Name: r.Name, Wraps: r.Wraps + "!"}
	}
	if in, ok := strings.CutPrefix(text, "["); ok {
		r := modelType(strings.TrimSuffix(in, "]"))
		return api.Ref{Name: r.Name, Wraps: r.Wraps + "["}
	}
	return api.Ref{Name: text}
}

func modelIn(text string) api.In {
	name, of, _ := strings.Cut(text, " ")
	return api.In{Name: name, Type: modelType(of)}
}

func modelOut(text string) api.Out {
	parts := strings.Split(text, ",")
	x := modelIn(parts[0])
	o := api.Out{Name: x.Name, Type: x.Type}
	for _, p := range parts[1:] {
		o.Args = append(o.Args, modelIn(p))
	}
	return o
}

// modelDef is the definition of a line.
func modelDef(line string) api.Def {
	head, rest, _ := strings.Cut(line, ":")
	kind, name, _ := strings.Cut(head, " ")
	d := api.Def{Name: name, Kind: modelKinds[kind]}
	if rest == "" {
		return d
	}
	for _, x := range strings.Split(rest, ";") {
		switch d.Kind {
		case api.DefEnum:
			d.Words = append(d.Words, x)
		case api.DefObject:
			d.Outs = append(d.Outs, modelOut(x))
		case api.DefInput:
			d.Ins = append(d.Ins, modelIn(x))
		}
	}
	return d
}

// modelDefs are the definitions of a text's lines.
func modelDefs(text string) []api.Def {
	var l []api.Def
	for _, line := range strings.Split(strings.TrimSpace(text), "\n") {
		l = append(l, modelDef(strings.TrimSpace(line)))
	}
	return l
}

// put is a line with a name in the places of "%".
func put(line, name string) string { return strings.ReplaceAll(line, "%", name) }

const (
	modelArgs    = ",filter %Filter,order %Order,first Int,offset Int"
	modelFilters = `input IntFilter:eq Int;lt Int;le Int;gt Int;ge Int;in [Int!]
		input FloatFilter:eq Float;lt Float;le Float;gt Float;ge Float;in [Float!]
		input StringFilter:eq String;lt String;le String;gt String;ge String;in [String!];begins String
		input BooleanFilter:eq Boolean
		`
)

// modelObject are the lines of one object.
func modelObject(s api.Schema, o api.Object) string {
	objects := map[string]bool{}
	for _, x := range s.Objects {
		objects[x.Name] = true
	}
	outs, orderable, filter, add, patch := "object %:id ID!", "enum %Orderable:id", "input %Filter:and [%Filter!];or [%Filter!];not %Filter;id [ID!]", "input Add%:", "input Patch%:"
	for i, f := range o.Fields {
		if i > 0 {
			add, patch = add+";", patch+";"
		}
		x := f.Type.Name
		switch {
		case objects[x] && f.Type.Wraps == "":
			outs += ";" + f.Name + " " + x
			add, patch = add+f.Name+" ID", patch+f.Name+" ID"
		case objects[x]:
			outs += ";" + f.Name + " [" + x + "!]!" + put(modelArgs, x)
			add, patch = add+f.Name+" [ID!]", patch+f.Name+" [ID!]"
		default:
			outs += ";" + f.Name + " " + x + f.Type.Wraps
			orderable += ";" + f.Name
			filter += ";" + f.Name + " " + x + "Filter"
			add, patch = add+f.Name+" "+x+f.Type.Wraps, patch+f.Name+" "+x
		}
	}
	return put(strings.Join([]string{outs, orderable, "input %Order:asc %Orderable;desc %Orderable;then %Order", filter, add, patch}, "\n")+"\n", o.Name)
}

// modelTypes are the definitions of a schema that may be.
func modelTypes(s api.Schema) []api.Def {
	text := "scalar ID\nscalar Int\nscalar Float\nscalar String\nscalar Boolean\n"
	for _, x := range s.Enums {
		text += "enum " + x.Name + ":" + strings.Join(x.Words, ";") + "\n"
	}
	for _, x := range s.Objects {
		text += modelObject(s, x)
	}
	text += modelFilters
	for _, x := range s.Enums {
		text += put("input %Filter:eq %;in [%!]\n", x.Name)
	}
	var asked, changed []string
	for _, x := range s.Objects {
		asked = append(asked, put("get% %,id ID!;query% [%!]!"+modelArgs, x.Name))
		changed = append(changed, put("add% [%!]!,input [Add%!]!;update% [%!]!,filter %Filter!,set Patch%!;delete% Int!,filter %Filter!", x.Name))
	}
	return modelDefs(text + "object Query:" + strings.Join(asked, ";") + "\nobject Mutation:" + strings.Join(changed, ";"))
}

// modelFind goes backwards, so that the first is what is left.
func modelFind(l []api.Def, name string) int {
	at := -1
	for i := len(l) - 1; i >= 0; i-- {
		if l[i].Name == name {
			at = i
		}
	}
	return at
}

func modelField(l []api.Def, def, field string) (x api.Out, ok bool) {
	at := modelFind(l, def)
	if at == -1 {
		return api.Out{}, false
	}
	if l[at].Kind != api.DefObject {
		return api.Out{}, false
	}
	for i := len(l[at].Outs) - 1; i >= 0; i-- {
		if l[at].Outs[i].Name == field {
			x, ok = l[at].Outs[i], true
		}
	}
	if field == "__typename" {
		x, ok = modelOut("__typename String!"), true
	}
	return x, ok
}
