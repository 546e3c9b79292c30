package coerce_test

import (
	"slices"
	"strings"
	"testing"
	"unicode/utf8"

	"rhizome/api"
	"rhizome/coerce"
	"rhizome/samples"
	"rhizome/values"
)

// breaks: does one of the three rules come of a value as a default value of a type?
func breaks(v api.Value, at api.Ref, defs []api.Def) bool {
	d := api.Doc{Ops: []api.Op{{Vars: []api.Var{{Name: "a", Type: at, Has: true, Default: v}}}}}
	return slices.ContainsFunc(values.Check(d, defs), func(e api.Errno) bool {
		return e == api.ErrValueType || e == api.ErrInputNone || e == api.ErrInputNeed
	})
}

// agrees: is a value coerced just if it breaks none of the three rules? It tells whether it is.
func agrees(t *testing.T, v api.Value, at api.Ref, defs []api.Def) bool {
	t.Helper()
	j, is, e := coerce.Value(v, at, defs, api.Json{})
	if is != (e == api.OK) || is == breaks(v, at, defs) {
		t.Errorf("%s by %v of %s: %s, %v, %d", short(v), at, short(defs), short(j), is, e)
	}
	return is
}

// fixed: has a value no variable, no object in which a name is there twice, and no text that is none? (An object has as many names as values: others no text comes to.)
func fixed(v api.Value) bool {
	seen := map[string]int{}
	for _, name := range v.Names {
		seen[name]++
	}
	return v.Kind != api.ValVar && (v.Kind != api.ValText || utf8.ValidString(v.Text)) &&
		(v.Kind != api.ValObject || len(seen) == len(v.Names) && len(v.Names) == len(v.List)) &&
		!slices.ContainsFunc(v.List, func(x api.Value) bool { return !fixed(x) })
}

// P16.5: values of texts.
func TestFollowsTexts(t *testing.T) {
	defs := types(t, wide)
	all := strings.Fields(`null 0 1 -0 2147483647 2147483648 -2147483648 -2147483649 1.5 1e0 1e308 1e309 -1e-400 "" "a" "A" true false A B C a id asc [] [1] [null] [1,null] [[1]] [[]] [1,[2]] [A] [true] ["a",1] {} {a:1} {a:null} {a:1,o:true} {o:false,a:0,e:A} {a:1,o:true,x:1} {o:true} {a:1,o:null} {a:true,o:true} {id:1} {id:null} {id:[1,"a"]} {and:{}} {and:[{},{or:{}}]} {and:[null]} {not:[]} {a:{eq:1}} {a:{eq:1.5}} {a:{in:[1,null]}} {a:{in:1}} {e:{eq:A}} {e:{eq:C}} {e:{in:[A,B]}} {asc:a,then:{desc:e}} {asc:b} {asc:"a"} {then:[]} {x:1} {b:[1]} {b:1} {b:[null]} {b:[[1]]} [{a:1,o:true}] [{a:1,o:true},{}] {f:1} {f:A} {s:1} {u:1} {u:[1]}`)
	fit := 0
	for _, d := range defs {
		for _, w := range wraps(3, "!", "[") {
			for _, text := range all {
				if at := (api.Ref{Name: d.Name, Wraps: w}); d.Kind != api.DefObject && agrees(t, value(t, text), at, defs) {
					fit++
				}
			}
		}
	}
	if fit < 1500 {
		t.Errorf("only %d fit", fit)
	}
}

// P16.5: all small values by all small types.
func TestFollowsShort(t *testing.T) {
	var defs []api.Def
	for _, d := range odd() {
		if d.Kind >= 0 && d.Kind < api.DefKinds && d.Name != "N" {
			defs = append(defs, d)
		}
	}
	defs[len(defs)-1].Ins = modelOnce(defs[len(defs)-1].Ins)
	all := slices.DeleteFunc(nested(), func(v api.Value) bool { return !fixed(v) })
	fit, not := 0, 0
	for _, d := range defs {
		for _, w := range wraps(2, "!", "[", "?") {
			for _, v := range all {
				if d.Kind == api.DefObject {
					continue
				} else if agrees(t, v, api.Ref{Name: d.Name, Wraps: w}, defs) {
					fit++
				} else {
					not++
				}
			}
		}
		if t.Failed() {
			return
		}
	}
	if fit < 1000 || not < 50000 {
		t.Errorf("%d fit, %d don't", fit, not)
	}
}

// P16.5: values that fit, and such with changes.
func TestFollowsMade(t *testing.T) {
	fit, not := 0, 0
	for i, x := range samples.Spread(4000) {
		defs, at, v := made(t, x, 100+i%300)
		if !agrees(t, v, at, defs) {
			t.Fatalf("%s does not fit %v", short(v), at)
		}
		v = change(samples.NewTrees(^x, 100), v, 1+i%3)
		if !fixed(v) {
			continue
		} else if agrees(t, v, at, defs) {
			fit++
		} else {
			not++
		}
		if t.Failed() {
			return
		}
	}
	if fit < 500 || not < 500 {
		t.Errorf("%d fit, %d don't", fit, not)
	}
}

// P16.5: what came of an argument, whose variables came of Vars by types that go for the argument's, stays, too.
func TestStaysArgs(t *testing.T) {
	many := 0
	for _, x := range samples.Spread(1500) {
		m := samples.NewTrees(x, 600)
		defs := madeTypes(t, m)
		d := m.Valued(defs)
		for _, o := range d.Ops {
			known, e := coerce.Vars(o.Vars, api.Json{}, defs)
			if e == api.ErrCoerceValue {
				t.Fatalf("%s: %d", short(o.Vars), e)
			}
			for i, name := range known.Keys {
				v := o.Vars[slices.IndexFunc(o.Vars, func(x api.Var) bool { return x.Name == name })]
				stays(t, known.List[i], v.Type, defs)
				many++
			}
			for _, s := range o.Sels {
				out := api.Out{}
				for _, y := range defs[len(defs)-2:] {
					for _, z := range y.Outs {
						if z.Name == s.Name {
							out = z
						}
					}
				}
				j, e := argued(t, s.Args, out.Args, defs, known)
				if e == api.OK && len(j.Keys) > 0 {
					many++
				}
			}
		}
		if t.Failed() {
			return
		}
	}
	if many < 1000 {
		t.Errorf("only %d", many)
	}
}
