package jsons

import (
	"strconv"

	"rhizome/api"
	"rhizome/floats"
)

// writer writes values that may be, and gives up where their text is too long.
type writer struct{ text []byte }

func (w *writer) put(s string) {
	if len(w.text)+len(s) > api.MaxJson {
		panic(api.ErrJsonLong)
	}
	w.text = append(w.text, s...)
}

func (w *writer) value(v api.Json) {
	switch v.Kind {
	case api.JsonNull:
		w.put("null")
	case api.JsonFalse:
		w.put("false")
	case api.JsonTrue:
		w.put("true")
	case api.JsonInt:
		w.put(strconv.Itoa(v.Int))
	case api.JsonFloat:
		// The number is known to be finite, so that there is no error.
		text, _ := floats.Text(v.Bits)
		w.put(text)
	case api.JsonText:
		w.quote(v.Text)
	case api.JsonList:
		w.put("[")
		for i, x := range v.List {
			w.comma(i)
			w.value(x)
		}
		w.put("]")
	case api.JsonObject:
		w.put("{")
		for i, x := range v.List {
			w.comma(i)
			w.quote(v.Keys[i])
			w.put(":")
			w.value(x)
		}
		w.put("}")
	}
}

// comma puts one ahead of each item but the first.
func (w *writer) comma(item int) {
	if item > 0 {
		w.put(",")
	}
}

func (w *writer) quote(s string) {
	const digits = "0123456789abcdef"
	w.put(`"`)
	for i := range len(s) {
		switch c := s[i]; {
		case c == '"' || c == '\\':
			w.put(`\`)
			w.put(s[i : i+1])
		case c < firstPlain:
			w.put(`\u00`)
			w.put(digits[c/16 : c/16+1])
			w.put(digits[c%16 : c%16+1])
		default:
			w.put(s[i : i+1])
		}
	}
	w.put(`"`)
}
