// Package refs takes types apart as chapter 13 does, for the layers that ask what may stand at one: see shared/doc/13-values.md.
package refs

import "rhizome/api"

// Cut tells a type's end, '!' or '[', and the type without that; 0 and the type as it is: it has none.
func Cut(t api.Ref) (byte, api.Ref) {
	last := len(t.Wraps) - 1
	if last < 0 || t.Wraps[last] != '!' && t.Wraps[last] != '[' {
		return 0, t
	}
	return t.Wraps[last], api.Ref{Name: t.Name, Wraps: t.Wraps[:last]}
}
