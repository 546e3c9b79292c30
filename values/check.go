package values

import (
	"rhizome/api"
	"rhizome/refs"
	"rhizome/sets"
)

// checker asks the rules; broken says of each rule how often it was seen to be.
type checker struct {
	types
	broken map[api.Errno]int
}

// use is a variable's name, and a type at which it lies.
type use struct {
	name string
	at   api.Ref
}

// found is what stands in an operation or in a fragment itself, and how often.
type found struct {
	names   map[string]int // of variables, whether they lie at a type or not
	uses    map[use]int
	spreads map[string]int
}

func nothing() found { return found{map[string]int{}, map[use]int{}, map[string]int{}} }

func (c checker) note(rule api.Errno, is bool) {
	if is {
		c.broken[rule]++
	}
}

// find asks the rules of values of an operation or a fragment that is alone in its document.
func (c checker) find(own []api.Directive, d api.Doc) found {
	f := nothing()
	c.directives(own, f)
	for x := range sets.All(d, c.defs) {
		c.directives(x.Directives, f)
		c.arguments(x.Args, insOf(x.Out.Args), f)
		if x.Kind == api.SelSpread {
			f.spreads[x.Name]++
		}
	}
	return f
}

func (c checker) directives(l []api.Directive, f found) {
	for _, x := range l {
		var ins map[string]api.Ref
		if sets.Known(x) {
			ins = insOf(sets.KnownArgs())
		}
		c.arguments(x.Args, ins, f)
	}
}

func (c checker) arguments(l []api.Arg, ins map[string]api.Ref, f found) {
	for _, x := range l {
		c.value(x.Value, f)
		if at, is := ins[x.Name]; is {
			c.typed(x.Value, at, f)
		}
	}
}

// value asks what must hold of a value wherever it stands.
func (c checker) value(v api.Value, f found) {
	within(v, func(x api.Value) {
		switch x.Kind {
		case api.ValVar:
			f.names[x.Text]++
		case api.ValObject:
			c.note(api.ErrInputTwice, len(count(x.Names)) < len(x.Names))
		}
	})
}

// typed asks what must hold of a value that has a type.
func (c checker) typed(v api.Value, t api.Ref, f found) {
	c.note(api.ErrValueType, !c.fits(v, t))
	c.lying(v, t, func(name string, at api.Ref) { f.uses[use{name, at}]++ }, c.object)
}

// object asks what must hold of an object that lies at an input.
func (c checker) object(v api.Value, d def) {
	names := count(v.Names)
	for name := range names {
		c.note(api.ErrInputNone, !has(d.ins, name))
	}
	for _, x := range d.Ins {
		end, _ := refs.Cut(x.Type)
		c.note(api.ErrInputNeed, end == '!' && !has(names, x.Name))
	}
}

// definitions asks what must hold of variables as they are defined. What stands there uses none.
func (c checker) definitions(l []api.Var) {
	for _, x := range l {
		kind := c.of(x.Type.Name).Kind
		c.note(api.ErrVarType, kind < 0 || kind == api.DefObject)
		c.directives(x.Directives, nothing())
		if x.Has {
			c.value(x.Default, nothing())
			c.typed(x.Default, x.Type, nothing())
		}
	}
}

// reached is what was found in an operation itself, and in each fragment that its spreads reach.
func reached(own found, frags map[string]found) []found {
	l := []found{own}
	seen := map[string]int{}
	for i := 0; i < len(l); i++ {
		for name := range l[i].spreads {
			if f, is := frags[name]; is && !has(seen, name) {
				seen[name]++
				l = append(l, f)
			}
		}
	}
	return l
}

// uses holds the variables that an operation defines against those that it uses.
func (c checker) uses(l []api.Var, all []found) {
	defined := map[string]api.Var{}
	for _, x := range l {
		c.note(api.ErrVarTwice, has(defined, x.Name))
		if !has(defined, x.Name) {
			defined[x.Name] = x
		}
	}
	used := map[string]int{}
	for _, f := range all {
		for name := range f.names {
			used[name]++
		}
		for x := range f.uses {
			v, is := defined[x.name]
			c.note(api.ErrVarWhere, is && !stands(v, x.at))
		}
	}
	for name := range used {
		c.note(api.ErrVarNone, !has(defined, name))
	}
	for name := range defined {
		c.note(api.ErrVarUnused, !has(used, name))
	}
}

// stands: may a variable stand at a type? One that has a default value is never null for want of one.
func stands(v api.Var, at api.Ref) bool {
	end, inner := refs.Cut(at)
	own, _ := refs.Cut(v.Type)
	if end == '!' && own != '!' && v.Has && v.Default.Kind != api.ValNull {
		at = inner
	}
	return goes(v.Type, at)
}

// count says of each name how often it stands in a list.
func count(l []string) map[string]int {
	names := map[string]int{}
	for _, x := range l {
		names[x]++
	}
	return names
}

func has[K comparable, V any](m map[K]V, key K) bool {
	_, is := m[key]
	return is
}
