package merge

import (
	"slices"

	"rhizome/api"
	"rhizome/refs"
)

// shape is what two types that are of one shape have the same.
type shape struct {
	ends   string // all of them, as Wraps has them
	object bool
	name   string // empty of an object, as all of them are of one shape
}

func (t *table) shapeOf(x api.Ref) shape {
	end, inner := refs.Cut(x)
	for end != 0 {
		end, inner = refs.Cut(inner)
	}
	ends := x.Wraps[len(inner.Wraps):]
	if t.object(x.Name) {
		return shape{ends: ends, object: true}
	}
	return shape{ends: ends, name: x.Name}
}

// alike: have two fields the same Name and the same arguments?
func alike(x, y api.Sel) bool {
	return x.Name == y.Name && len(x.Args) == len(y.Args) && among(x.Args, y.Args) && among(y.Args, x.Args)
}

// among: is each of these arguments among others? Where one stands twice it hangs on who asks whom, so alike asks both.
func among(l, others []api.Arg) bool {
next:
	for _, x := range l {
		for _, y := range others {
			if x.Name == y.Name && same(x.Value, y.Value) {
				continue next
			}
		}
		return false
	}
	return true
}

// same: are two values the same trees?
func same(v, w api.Value) bool {
	return v.Kind == w.Kind && v.Text == w.Text && slices.Equal(v.Names, w.Names) && slices.EqualFunc(v.List, w.List, same)
}
