package syntax

import "rhizome/api"

// end is the sign of the token that stands behind a document's own ones, so that there is always one that is next: no punctuator is empty.
const end = ""

// What is counted by how much of its kind it is within.
const (
	sets = iota
	values
	types
	kinds
)

// reader reads tokens from the left: those ahead of at are read.
type reader struct {
	tokens []api.Token
	at     int
	fixed  bool       // within a variable's definition: no value has a variable in it
	deep   [kinds]int // how many of each kind are open
}

// fault is an error at the token that is next.
func (r *reader) fault(e api.Errno) fault { return fault{r.next().At, e} }

func (r *reader) next() api.Token { return r.tokens[r.at] }

// seesKind tells whether a token of that kind is next.
func (r *reader) seesKind(kind int) bool { return r.next().Kind == kind }

// sees tells whether that punctuator is next: not a text that says the same.
func (r *reader) sees(sign string) bool {
	return r.seesKind(api.TokPunct) && r.next().Text == sign
}

// seesWord tells whether that name is next.
func (r *reader) seesWord(word string) bool {
	return r.seesKind(api.TokName) && r.next().Text == word
}

// read goes over the token that is next, and is what it says.
func (r *reader) read() string {
	r.at++
	return r.tokens[r.at-1].Text
}

// take goes over that punctuator, if it is next.
func (r *reader) take(sign string) bool {
	seen := r.sees(sign)
	if seen {
		r.at++
	}
	return seen
}

// takeWord goes over that name, if it is next.
func (r *reader) takeWord(word string) bool {
	seen := r.seesWord(word)
	if seen {
		r.at++
	}
	return seen
}

// need gives up at the token that is next, unless what must hold there does.
func (r *reader) need(holds bool) {
	if !holds {
		panic(r.fault(api.ErrSyntax))
	}
}

// open goes over a punctuator that must be next, and counts it until it is closed.
func (r *reader) open(kind int, sign string) {
	r.need(r.sees(sign))
	if r.deep[kind] == api.MaxDeep {
		panic(r.fault(api.ErrSyntaxDeep))
	}
	r.deep[kind]++
	r.at++
}

// any reads none or more, up to that punctuator, and goes over it.
func (r *reader) any(last string, one func()) {
	for !r.take(last) {
		one()
	}
}

// some reads one or more, up to that punctuator, and goes over it.
func (r *reader) some(last string, one func()) {
	one()
	r.any(last, one)
}

// led reads none or more, of which each has that punctuator ahead of it.
func (r *reader) led(first string, one func()) {
	for r.take(first) {
		one()
	}
}

// name reads a name.
func (r *reader) name() string {
	r.need(r.seesKind(api.TokName))
	return r.read()
}
