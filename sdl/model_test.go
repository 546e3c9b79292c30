package sdl_test

import (
	"regexp"
	"slices"
	"sort"
	"strings"

	"rhizome/api"
	"rhizome/lex"
)

// The model says the chapter's words anew. The grammar has no part within itself: it is a regular expression over rows in which each token is one letter. What can follow: a row is the beginning of a schema's, if one of the ends of some schemas makes it one (they have an end for each place of the grammar). The schema: found by regular expressions in the tokens with a blank between each two.

// modelLetter is a token as one letter: a punctuator is itself, of names those are told apart that the grammar does.
func modelLetter(t api.Token) string {
	names := map[string]string{"type": "t", "enum": "e", "search": "s", "hasInverse": "h", "field": "f", "true": "x", "false": "x", "null": "x"}
	switch {
	case t.Kind == api.TokPunct && t.Text == "...":
		return "."
	case t.Kind == api.TokPunct:
		return t.Text
	case t.Kind != api.TokName:
		return "0"
	case names[t.Text] != "":
		return names[t.Text]
	}
	return "a"
}

// modelGrammar is the grammar, with WORD, NAME, KIND, DIRS as they are.
var modelGrammar = regexp.MustCompile(strings.NewReplacer(
	"WORD", `[teshfa]`, "NAME", `[teshfxa]`, "KIND", `([teshfxa]!?|\[[teshfxa]!?\]!?)`, "DIRS", `((@s)?(@h\(f:[teshfxa]\))?|@h\(f:[teshfxa]\)@s)`,
).Replace(`^(tNAME{(NAME:KINDDIRS)+}|eNAME{WORD+})+$`))

// modelEnds are all ends of some schemas: of types wrapped as may be, with directives in either order, of an enum.
var modelEnds = func() []string {
	l := []string{""}
	for _, s := range []string{"ta{a:[a!]!@s@h(f:a)}", "ta{a:a!@h(f:a)@s}", "ea{a}"} {
		for i := range s {
			l = append(l, s[i:])
		}
	}
	slices.Sort(l)
	return slices.Compact(l)
}()

// modelBegins keeps what was worked out, since the same rows come again and again.
var modelBegins = map[string]bool{}

// modelBegin tells whether a row is the beginning of a schema's.
func modelBegin(row string) bool {
	begins, known := modelBegins[row]
	if !known {
		begins = slices.ContainsFunc(modelEnds, func(end string) bool { return modelGrammar.MatchString(row + end) })
		modelBegins[row] = begins
	}
	return begins
}

// modelParse is what Parse should answer.
func modelParse(s string) (api.Schema, int, api.Errno) {
	l, at, e := lex.Tokens(s)
	if e != api.OK {
		return api.Schema{}, at, e
	}
	row, words := "", []string{}
	for _, x := range l {
		row += modelLetter(x)
		words = append(words, x.Text)
	}
	// What a row that is no beginning begins is none, too.
	n := sort.Search(len(row)+1, func(n int) bool { return !modelBegin(row[:n]) })
	if n <= len(row) {
		return api.Schema{}, l[n-1].At, api.ErrSdlText
	}
	if !modelGrammar.MatchString(row) {
		return api.Schema{}, len(s), api.ErrSdlText
	}
	return modelSchema(strings.Join(words, " ")), 0, api.OK
}

var (
	modelDefs    = regexp.MustCompile(`(type|enum) (\w+) {([^}]*) }`)
	modelFields  = regexp.MustCompile(`(\w+) : (\[ )?(\w+)( !)?(?: \])?( !)?((?: @ search| @ hasInverse \( field : \w+ \))*)`)
	modelInverse = regexp.MustCompile(`field : (\w+)`)
)

// modelSchema is the schema that a text of tokens says, with a blank between each two.
func modelSchema(text string) api.Schema {
	var s api.Schema
	for _, x := range modelDefs.FindAllStringSubmatch(text, -1) {
		if x[1] == "enum" {
			s.Enums = append(s.Enums, api.Enum{Name: x[2], Words: strings.Fields(x[3])})
			continue
		}
		object := api.Object{Name: x[2]}
		for _, y := range modelFields.FindAllStringSubmatch(x[3], -1) {
			f := api.Field{Name: y[1], Type: api.Ref{Name: y[3], Wraps: strings.TrimSpace(y[4])}, Search: strings.Contains(y[6], "@ search")}
			if y[2] != "" {
				f.Type.Wraps += "[" + strings.TrimSpace(y[5])
			}
			if back := modelInverse.FindStringSubmatch(y[6]); back != nil {
				f.Inverse = back[1]
			}
			object.Fields = append(object.Fields, f)
		}
		s.Objects = append(s.Objects, object)
	}
	return s
}

var modelName = regexp.MustCompile(`^[A-Za-z_][A-Za-z_0-9]*$`)

// modelKinds has a type's text for each of the wraps.
var modelKinds = map[string]string{"": "T", "!": "T !", "[": "[ T ]", "[!": "[ T ] !", "![": "[ T ! ]", "![!": "[ T ! ] !"}

// modelWriter writes a schema as words, and gathers which names there are, and what is wrong.
type modelWriter struct{ words, names, wrong []string }

func (w *modelWriter) must(holds bool, what string) {
	if !holds {
		w.wrong = append(w.wrong, what)
	}
}

func (w *modelWriter) put(words ...string) { w.words = append(w.words, words...) }

func (w *modelWriter) named(names ...string) { w.names = append(w.names, names...) }

func (w *modelWriter) object(x api.Object) {
	w.must(len(x.Fields) > 0, "an object without a field")
	w.named(x.Name)
	w.put("type", x.Name, "{")
	for _, f := range x.Fields {
		kind, ok := modelKinds[f.Type.Wraps]
		w.must(ok, "wraps that are none")
		w.named(f.Name, f.Type.Name)
		w.put(f.Name, ":", strings.Replace(kind, "T", f.Type.Name, 1))
		if f.Search {
			w.put("@ search")
		}
		if f.Inverse != "" {
			w.named(f.Inverse)
			w.put("@ hasInverse ( field :", f.Inverse, ")")
		}
	}
	w.put("}")
}

func (w *modelWriter) enum(x api.Enum) {
	w.must(len(x.Words) > 0, "an enum without a word")
	w.named(x.Name)
	w.named(x.Words...)
	w.put("enum", x.Name, "{")
	w.put(x.Words...)
	w.put("}")
	for _, word := range x.Words {
		w.must(word != "true" && word != "false" && word != "null", "a word that may not be")
	}
}

// modelPrint is what Print should answer, and of an error why.
func modelPrint(s api.Schema) (string, api.Errno, string) {
	var w modelWriter
	for _, x := range s.Objects {
		w.object(x)
	}
	for _, x := range s.Enums {
		w.enum(x)
	}
	w.must(len(s.Objects)+len(s.Enums) > 0, "nothing at all")
	for _, x := range w.names {
		w.must(modelName.MatchString(x), "a name that is none")
	}
	text := strings.Join(w.words, " ")
	w.must(len(text) <= 16384, "too many bytes")
	w.must(len(strings.Fields(text)) <= 2048, "too many tokens")
	if len(w.wrong) > 0 {
		return "", api.ErrSdlForm, w.wrong[0]
	}
	return text, api.OK, ""
}
