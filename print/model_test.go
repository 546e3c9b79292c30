package print_test

import (
	"fmt"
	"reflect"
	"regexp"
	"strings"
	"unicode/utf8"

	"rhizome/api"
)

// The model says the chapter's words anew: a tree's tokens are all written, whatever they are; beside them stands what may not be, and how deep it goes.

var (
	modelName  = regexp.MustCompile(`\A[_A-Za-z][_0-9A-Za-z]*\z`)
	modelInt   = regexp.MustCompile(`\A-?(0|[1-9][0-9]*)\z`)
	modelFloat = regexp.MustCompile(`\A-?(0|[1-9][0-9]*)(\.[0-9]+([eE][+-]?[0-9]+)?|[eE][+-]?[0-9]+)\z`)
)

// model writes a tree.
type model struct {
	row   []string
	wrong []string // what may not be
	sets  int      // how many sets are within one another, at most
	lists int      // how many lists and objects of a value
	types int      // how many brackets of a type
}

func (m *model) put(words ...string) { m.row = append(m.row, words...) }

func (m *model) must(holds bool, what string) {
	if !holds {
		m.wrong = append(m.wrong, what)
	}
}

// name writes a name.
func (m *model) name(s, of string) {
	m.must(modelName.MatchString(s), "no name of "+of)
	m.put(s)
}

// perhaps writes a name, if there is one.
func (m *model) perhaps(s, of string) {
	if s != "" {
		m.name(s, of)
	}
}

// modelHalf is the number of the half that these bytes begin with, or 0.
func modelHalf(s string) int {
	if len(s) < 3 || s[0] != 0xed || s[1]&0xe0 != 0xa0 || s[2]&0xc0 != 0x80 {
		return 0
	}
	return 0xd000 + int(s[1]&63)*64 + int(s[2]&63)
}

// modelQuote is a text as a string, and whether it is one of source characters and halves.
func modelQuote(s string) (string, bool) {
	var row strings.Builder
	ok := true
	for len(s) > 0 {
		c, size := utf8.DecodeRuneInString(s)
		switch half := modelHalf(s); {
		case half > 0:
			fmt.Fprintf(&row, "\\u%04x", half)
			size = 3
		case c == utf8.RuneError && size == 1 || c > 65535:
			ok = false
		case c < 32 || c == 127:
			fmt.Fprintf(&row, "\\u%04x", c)
		case c == '"' || c == '\\':
			row.WriteString("\\" + string(c))
		default:
			row.WriteRune(c)
		}
		s = s[size:]
	}
	return `"` + row.String() + `"`, ok
}

// value writes a value and tells how many lists and objects are within one another.
func (m *model) value(v api.Value, fixed bool) int {
	m.must(v.Text == "" || v.Kind >= api.ValVar && v.Kind <= api.ValEnum, "a text of what has none")
	m.must(len(v.List) == 0 || v.Kind == api.ValList || v.Kind == api.ValObject, "a list of what has none")
	m.must(len(v.Names) == 0 || v.Kind == api.ValObject, "names of what has none")
	switch v.Kind {
	case api.ValNull, api.ValFalse, api.ValTrue:
		m.put([]string{api.ValNull: "null", api.ValFalse: "false", api.ValTrue: "true"}[v.Kind])
	case api.ValVar:
		m.must(!fixed, "a variable in what is constant")
		m.put("$")
		m.name(v.Text, "a variable")
	case api.ValInt:
		m.must(modelInt.MatchString(v.Text), "no int")
		m.put(v.Text)
	case api.ValFloat:
		m.must(modelFloat.MatchString(v.Text), "no float")
		m.put(v.Text)
	case api.ValText:
		s, ok := modelQuote(v.Text)
		m.must(ok, "no text")
		m.put(s)
	case api.ValEnum:
		m.must(v.Text != "true" && v.Text != "false" && v.Text != "null", "a word that is no enum's")
		m.name(v.Text, "an enum")
	case api.ValList, api.ValObject:
		return m.nested(v, fixed)
	default:
		m.must(false, "no kind of values")
	}
	return 0
}

// nested writes a list or an object.
func (m *model) nested(v api.Value, fixed bool) int {
	deep := 0
	if v.Kind == api.ValObject && len(v.Names) != len(v.List) {
		m.must(false, "too many or too few names")
		return 0
	}
	m.put(map[int]string{api.ValList: "[", api.ValObject: "{"}[v.Kind])
	for i, x := range v.List {
		if v.Kind == api.ValObject {
			m.name(v.Names[i], "a member")
			m.put(":")
		}
		deep = max(deep, m.value(x, fixed))
	}
	m.put(map[int]string{api.ValList: "]", api.ValObject: "}"}[v.Kind])
	return deep + 1
}

func (m *model) args(l []api.Arg, fixed bool) {
	for i, x := range l {
		if i == 0 {
			m.put("(")
		}
		m.name(x.Name, "an argument")
		m.put(":")
		m.lists = max(m.lists, m.value(x.Value, fixed))
		if i == len(l)-1 {
			m.put(")")
		}
	}
}

func (m *model) directives(l []api.Directive, fixed bool) {
	for _, x := range l {
		m.put("@")
		m.name(x.Name, "a directive")
		m.args(x.Args, fixed)
	}
}

// ref writes a type: what opens ahead of its name, what closes behind it.
func (m *model) ref(x api.Ref) {
	opens := strings.Count(x.Wraps, "[")
	m.types = max(m.types, opens)
	m.must(!strings.Contains(x.Wraps, "!!"), "two ! side by side")
	for range opens {
		m.put("[")
	}
	m.name(x.Name, "a type")
	for _, c := range []byte(x.Wraps) {
		m.must(c == '!' || c == '[', "no wrap")
		m.put(map[byte]string{'!': "!", '[': "]"}[c])
	}
}

func (m *model) vars(l []api.Var) {
	for i, x := range l {
		if i == 0 {
			m.put("(")
		}
		m.put("$")
		m.name(x.Name, "a variable's definition")
		m.put(":")
		m.ref(x.Type)
		if x.Has {
			m.put("=")
			m.lists = max(m.lists, m.value(x.Default, true))
		} else {
			m.must(same(x.Default, api.Value{}), "a default value that isn't there")
		}
		m.directives(x.Directives, true)
		if i == len(l)-1 {
			m.put(")")
		}
	}
}

// set writes selections and tells how many sets are within one another.
func (m *model) set(l []api.Sel) int {
	deep := 0
	m.put("{")
	for _, x := range l {
		switch x.Kind {
		case api.SelField:
			m.must(x.On == "", "a field with a type")
			if x.Alias != "" {
				m.name(x.Alias, "an alias")
				m.put(":")
			}
			m.name(x.Name, "a field")
		case api.SelSpread:
			m.must(x.Alias == "" && x.On == "" && len(x.Args) == 0 && len(x.Sels) == 0, "a spread with more than its name")
			m.must(x.Name != "on", "a spread of on")
			m.put("...")
			m.name(x.Name, "a spread")
		case api.SelInline:
			m.must(x.Alias == "" && x.Name == "" && len(x.Args) == 0, "an inline fragment with a field's part")
			m.must(len(x.Sels) > 0, "an inline fragment of nothing")
			m.put("...")
			if x.On != "" {
				m.put("on")
			}
			m.perhaps(x.On, "an inline fragment's type")
		default:
			m.must(false, "no kind of selections")
		}
		m.args(x.Args, false)
		m.directives(x.Directives, false)
		if len(x.Sels) > 0 {
			deep = max(deep, m.set(x.Sels))
		}
	}
	m.put("}")
	return deep + 1
}

func (m *model) doc(d api.Doc) {
	m.must(len(d.Ops)+len(d.Frags) > 0, "nothing")
	for _, x := range d.Ops {
		if x.Kind < 0 || x.Kind > 2 {
			m.must(false, "no kind of operations")
			continue
		}
		if x.Kind != api.OpQuery || x.Name != "" || len(x.Vars) > 0 || len(x.Directives) > 0 {
			m.put([]string{api.OpQuery: "query", api.OpMutation: "mutation", api.OpSubscription: "subscription"}[x.Kind])
		}
		m.perhaps(x.Name, "an operation")
		m.vars(x.Vars)
		m.directives(x.Directives, false)
		m.must(len(x.Sels) > 0, "an operation of nothing")
		m.sets = max(m.sets, m.set(x.Sels))
	}
	for _, x := range d.Frags {
		m.put("fragment")
		m.must(x.Name != "on", "a fragment on")
		m.name(x.Name, "a fragment")
		m.put("on")
		m.name(x.On, "a fragment's type")
		m.directives(x.Directives, false)
		m.must(len(x.Sels) > 0, "a fragment of nothing")
		m.sets = max(m.sets, m.set(x.Sels))
	}
}

// end is the text, if there is one: around is how many bytes, tokens, it has around it.
func (m *model) end(aroundBytes, aroundTokens int) (string, api.Errno) {
	s := strings.Join(m.row, " ")
	m.must(len(s)+aroundBytes <= 16384, "too long")
	m.must(len(m.row)+aroundTokens <= 2048, "too many tokens")
	m.must(m.sets <= 32 && m.lists <= 32 && m.types <= 32, "too deep")
	if len(m.wrong) > 0 {
		return "", api.ErrPrintForm
	}
	return s, api.OK
}

// modelDoc is what Print tells of a tree, and why.
func modelDoc(d api.Doc) (string, api.Errno, []string) {
	var m model
	m.doc(d)
	s, e := m.end(0, 0)
	return s, e, m.wrong
}

// modelValue is what Value tells of a value, and why.
func modelValue(v api.Value) (string, api.Errno, []string) {
	var m model
	m.lists = m.value(v, false)
	s, e := m.end(len("{ a ( b : ")+len(" ) }"), 7)
	return s, e, m.wrong
}

// copied is x anew, each list in it of new memory and without spare room, an empty one nil.
func copied[T any](x T) T {
	var again T
	copyInto(reflect.ValueOf(&again).Elem(), reflect.ValueOf(x))
	return again
}

func copyInto(to, from reflect.Value) {
	switch from.Kind() {
	case reflect.Slice:
		if from.Len() > 0 {
			to.Set(reflect.MakeSlice(from.Type(), from.Len(), from.Len()))
		}
		for i := range from.Len() {
			copyInto(to.Index(i), from.Index(i))
		}
	case reflect.Struct:
		for i := range from.NumField() {
			copyInto(to.Field(i), from.Field(i))
		}
	default:
		to.Set(from)
	}
}

// same tells whether two are one: a nil list and an empty one are the same.
func same[T any](a, b T) bool { return reflect.DeepEqual(copied(a), copied(b)) }
