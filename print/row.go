package print

import (
	"strings"

	"rhizome/api"
)

// row is tokens, one behind the other; size is how long they are, with a blank behind each.
type row struct {
	tokens []string
	size   int
}

// put puts a token behind the others, and tells whether there is room for more: a tree that is too long is not gone over to its end.
func (r *row) put(token string) bool {
	r.tokens = append(r.tokens, token)
	r.size += len(token) + 1
	return r.size-1 <= api.MaxText
}

func (r *row) text() string { return strings.Join(r.tokens, " ") }
