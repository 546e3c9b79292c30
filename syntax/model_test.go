package syntax_test

import (
	"slices"
	"strings"
	"testing"

	"rhizome/api"
	"rhizome/lex"
)

// The model says the chapter's words anew. What can follow: the grammar as a text, and beside the tokens that are read all rows of what may still come (what is said of "any document" is said of any such row). The tree: written as the tokens that say it.

// modelGrammar has a line for each thing; of brackets s, v, t tell whether a SET, a VALUE, a TYPE has them; CVALUE, CDIR are those without VAR.
const modelGrammar = `
DOC -> DEF DEFS
DEFS -> | DEF DEFS
DEF -> OP | FRAG
OP -> SET | KIND PERHAPSNAME PERHAPSVARS DIRS SET
KIND -> 'query | 'mutation | 'subscription
PERHAPSNAME -> | NAME
PERHAPSVARS -> | ( VARDEF VARDEFS )
VARDEFS -> | VARDEF VARDEFS
VARDEF -> VAR : TYPE PERHAPSDEFAULT CDIRS
PERHAPSDEFAULT -> | = CVALUE
VAR -> $ NAME
TYPE -> NAME BANG | [t TYPE ]t BANG
BANG -> | !
SET -> {s SEL SELS }s
SELS -> | SEL SELS
SEL -> ALIAS NAME PERHAPSARGS DIRS PERHAPSSET | ... OTHERNAME DIRS | ... PERHAPSON DIRS SET
ALIAS -> | NAME :
PERHAPSARGS -> | ( ARG ARGS )
PERHAPSSET -> | SET
PERHAPSON -> | 'on NAME
FRAG -> 'fragment OTHERNAME 'on NAME DIRS SET
DIRS -> | DIR DIRS
DIR -> @ NAME PERHAPSARGS
CDIRS -> | CDIR CDIRS
CDIR -> @ NAME PERHAPSCARGS
PERHAPSCARGS -> | ( CARG CARGS )
ARGS -> | ARG ARGS
CARGS -> | CARG CARGS
ARG -> NAME : VALUE
CARG -> NAME : CVALUE
VALUE -> VAR | INT | FLOAT | TEXT | NAME | [v VALUES ]v | {v ARGS }v
CVALUE -> INT | FLOAT | TEXT | NAME | [v CVALUES ]v | {v CARGS }v
VALUES -> | VALUE VALUES
CVALUES -> | CVALUE CVALUES
`

// modelRows are the ways in which each thing of the grammar may be written.
var modelRows = modelRead()

func modelRead() map[string][][]string {
	rows := map[string][][]string{}
	for _, line := range strings.Split(strings.TrimSpace(modelGrammar), "\n") {
		name, ways, _ := strings.Cut(line, " -> ")
		for _, way := range strings.Split(ways, "|") {
			rows[name] = append(rows[name], strings.Fields(way))
		}
	}
	return rows
}

// modelState is all rows of what may still come, each as a text, in order.
type modelState string

const modelFirst modelState = "DOC END"

// modelSteps keeps what was worked out, since the same states come again and again.
var modelSteps = map[modelState]map[string]modelStep{}

type modelStep struct {
	next modelState
	e    api.Errno
}

// modelKey tells what of a token the grammar tells apart.
func modelKey(t api.Token) string {
	switch t.Kind {
	case api.TokPunct:
		return t.Text
	case api.TokName:
		if slices.Contains([]string{"on", "query", "mutation", "subscription", "fragment"}, t.Text) {
			return "'" + t.Text
		}
		return "'"
	}
	return []string{api.TokInt: "INT", api.TokFloat: "FLOAT", api.TokText: "TEXT"}[t.Kind]
}

// modelIs tells whether a token may stand where the grammar has that.
func modelIs(want, key string) bool {
	switch want {
	case "NAME":
		return key[0] == '\''
	case "OTHERNAME":
		return key[0] == '\'' && key != "'on"
	case "[t", "[v", "]t", "]v", "{s", "{v", "}s", "}v":
		return want[:1] == key
	}
	return want == key
}

// modelFollow is the state behind a token, and what is wrong with it, if anything is.
func modelFollow(s modelState, key string) (modelState, api.Errno) {
	step, ok := modelSteps[s][key]
	if !ok {
		if modelSteps[s] == nil {
			modelSteps[s] = map[string]modelStep{}
		}
		step = modelWork(s, key)
		modelSteps[s][key] = step
	}
	return step.next, step.e
}

func modelWork(s modelState, key string) modelStep {
	var found []string
	e := api.ErrSyntax
	for todo := strings.Split(string(s), "|"); len(todo) > 0; {
		row := strings.Fields(todo[0])
		todo = todo[1:]
		if len(row) == 0 {
			continue
		}
		for _, way := range modelRows[row[0]] {
			todo = append(todo, strings.Join(slices.Concat(way, row[1:]), " "))
		}
		if modelIs(row[0], key) {
			found = append(found, strings.Join(row[1:], " "))
			e = modelDeep(row)
		}
	}
	slices.Sort(found)
	return modelStep{modelState(strings.Join(slices.Compact(found), "|")), e}
}

// modelDeep is whether a row's first is too deep: what it opens within is what is still to be closed behind its own end.
func modelDeep(row []string) api.Errno {
	ends := map[string][]string{"{s": {"}s"}, "[v": {"]v", "}v"}, "{v": {"]v", "}v"}, "[t": {"]t"}}[row[0]]
	count := 0
	for _, x := range row {
		if slices.Contains(ends, x) {
			count++
		}
	}
	if count-1 >= 32 {
		return api.ErrSyntaxDeep
	}
	return api.OK
}

// modelEnds tells whether a document may end there.
func modelEnds(s modelState) bool {
	_, e := modelFollow(s, "END")
	return e == api.OK
}

// modelCheck is the place and the error of a document that is none, else 0 and OK.
func modelCheck(s string) (int, api.Errno) {
	l, at, e := lex.Tokens(s)
	if e != api.OK {
		return at, e
	}
	state := modelFirst
	for _, t := range l {
		if state, e = modelFollow(state, modelKey(t)); e != api.OK {
			return t.At, e
		}
	}
	if !modelEnds(state) {
		return len(s), api.ErrSyntax
	}
	return 0, api.OK
}

// modelTokens is tokens without their places: a letter for the kind, and the text.
func modelTokens(l []api.Token) []string {
	var row []string
	for _, x := range l {
		row = append(row, "pnift"[x.Kind:x.Kind+1]+x.Text)
	}
	return row
}

// writer writes trees as tokens; wrong is what may not be in one.
type writer struct {
	row   []string
	wrong []string
}

// put writes punctuators and names.
func (w *writer) put(words ...string) {
	for _, x := range words {
		if strings.Contains("! $ ( ) ... : = @ [ ] { }", x) {
			w.row = append(w.row, "p"+x)
		} else {
			w.row = append(w.row, "n"+x)
		}
	}
}

func (w *writer) must(holds bool, what string) {
	if !holds {
		w.wrong = append(w.wrong, what)
	}
}

func (w *writer) value(v api.Value) {
	w.must(v.Kind == api.ValObject && len(v.Names) == len(v.List) || len(v.Names) == 0, "names of what has none")
	w.must(v.Kind == api.ValList || v.Kind == api.ValObject || len(v.List) == 0, "a list of what has none")
	w.must(v.Kind >= api.ValVar && v.Kind <= api.ValEnum || v.Text == "", "a text of what has none")
	switch v.Kind {
	case api.ValNull:
		w.put("null")
	case api.ValFalse:
		w.put("false")
	case api.ValTrue:
		w.put("true")
	case api.ValVar:
		w.put("$", v.Text)
	case api.ValInt:
		w.row = append(w.row, "i"+v.Text)
	case api.ValFloat:
		w.row = append(w.row, "f"+v.Text)
	case api.ValText:
		w.row = append(w.row, "t"+v.Text)
	case api.ValEnum:
		w.must(!slices.Contains([]string{"null", "true", "false"}, v.Text), "a word that is no enum's")
		w.put(v.Text)
	case api.ValList:
		w.put("[")
		for _, x := range v.List {
			w.value(x)
		}
		w.put("]")
	case api.ValObject:
		w.put("{")
		for i, x := range v.List {
			w.put(v.Names[i], ":")
			w.value(x)
		}
		w.put("}")
	}
}

func (w *writer) args(l []api.Arg) {
	for i, x := range l {
		if i == 0 {
			w.put("(")
		}
		w.put(x.Name, ":")
		w.value(x.Value)
	}
	if len(l) > 0 {
		w.put(")")
	}
}

func (w *writer) directives(l []api.Directive) {
	for _, x := range l {
		w.put("@", x.Name)
		w.args(x.Args)
	}
}

func (w *writer) ref(x api.Ref) {
	opens := strings.Count(x.Wraps, "[")
	for range opens {
		w.put("[")
	}
	w.put(x.Name)
	for _, c := range x.Wraps {
		w.put(map[rune]string{'[': "]", '!': "!"}[c])
	}
}

func (w *writer) vars(l []api.Var) {
	for i, x := range l {
		if i == 0 {
			w.put("(")
		}
		w.put("$", x.Name, ":")
		w.ref(x.Type)
		if x.Has {
			w.put("=")
			w.value(x.Default)
		} else {
			zero := api.Value{}
			w.must(x.Default.Kind == zero.Kind && x.Default.Text == "" && len(x.Default.List)+len(x.Default.Names) == 0, "a default value that isn't there")
		}
		w.directives(x.Directives)
	}
	if len(l) > 0 {
		w.put(")")
	}
}

func (w *writer) sels(l []api.Sel) {
	if len(l) == 0 {
		return
	}
	w.put("{")
	for _, x := range l {
		w.must(x.Kind == api.SelField || x.Alias == "" && len(x.Args) == 0, "a field's part in another selection")
		w.must(x.Kind == api.SelInline || x.On == "", "a type in another selection")
		switch {
		case x.Kind == api.SelField && x.Alias != "":
			w.put(x.Alias, ":", x.Name)
		case x.Kind == api.SelField:
			w.put(x.Name)
		case x.Kind == api.SelSpread:
			w.must(x.Name != "on" && len(x.Sels) == 0, "a spread that is none")
			w.put("...", x.Name)
		case x.On != "":
			w.must(x.Name == "" && len(x.Sels) > 0, "an inline fragment that is none")
			w.put("...", "on", x.On)
		default:
			w.must(x.Name == "" && len(x.Sels) > 0, "an inline fragment that is none")
			w.put("...")
		}
		w.args(x.Args)
		w.directives(x.Directives)
		w.sels(x.Sels)
	}
	w.put("}")
}

// op writes an operation; short is whether it is a set alone, if it may be.
func (w *writer) op(x api.Op, short bool) {
	if !short || x.Kind != api.OpQuery || x.Name != "" || len(x.Vars)+len(x.Directives) > 0 {
		w.put([]string{api.OpQuery: "query", api.OpMutation: "mutation", api.OpSubscription: "subscription"}[x.Kind])
		if x.Name != "" {
			w.put(x.Name)
		}
		w.vars(x.Vars)
		w.directives(x.Directives)
	}
	w.sels(x.Sels)
}

func (w *writer) frag(x api.Frag) {
	w.must(x.Name != "on", "a fragment of a name that may not be")
	w.put("fragment", x.Name, "on", x.On)
	w.directives(x.Directives)
	w.sels(x.Sels)
}

// says holds a tree against the tokens of its document: the definitions come in the order in which these have them.
func says(t *testing.T, s string, d api.Doc, l []api.Token) {
	t.Helper()
	want := modelTokens(l)
	var w writer
	for len(w.row) < len(want) && len(d.Ops)+len(d.Frags) > 0 {
		first := want[len(w.row)]
		switch {
		case first == "nfragment" && len(d.Frags) > 0:
			w.frag(d.Frags[0])
			d.Frags = d.Frags[1:]
		case first != "nfragment" && len(d.Ops) > 0:
			w.op(d.Ops[0], first == "p{")
			d.Ops = d.Ops[1:]
		default:
			t.Errorf("%.300q: no tree's definition at %q", s, first)
			return
		}
	}
	if !slices.Equal(w.row, want) || len(d.Ops)+len(d.Frags) > 0 || len(w.wrong) > 0 {
		t.Errorf("%.300q: the tree says %.300q and %v, has left %.300v", s, w.row, w.wrong, d)
	}
}
