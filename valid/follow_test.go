package valid_test

import (
	"reflect"
	"slices"
	"testing"

	"rhizome/api"
	"rhizome/print"
	"rhizome/samples"
	"rhizome/valid"
)

// step is selections in which each spread is put as an inline fragment; what that brings stays as it is, and so does a spread of a name that no fragment has. It says how many were put.
func step(l []api.Sel, frags []api.Frag) ([]api.Sel, int) {
	var put []api.Sel
	count := 0
	for _, x := range l {
		at := slices.IndexFunc(frags, func(f api.Frag) bool { return f.Name == x.Name })
		if x.Kind == api.SelSpread && at >= 0 {
			x = api.Sel{Kind: api.SelInline, On: frags[at].On, Directives: x.Directives, Sels: frags[at].Sels}
			count++
		} else {
			within, n := step(x.Sels, frags)
			x.Sels = within
			count += n
		}
		put = append(put, x)
	}
	return put, count
}

// inlined is a document whose spreads are put as inline fragments, again and again, without its fragments; and how many were put. No fragment may reach itself.
func inlined(d api.Doc) (api.Doc, int) {
	all := 0
	var ops []api.Op
	for _, x := range d.Ops {
		for n := 1; n > 0; all += n {
			x.Sels, n = step(x.Sels, d.Frags)
		}
		ops = append(ops, x)
	}
	return api.Doc{Ops: ops}, all
}

// stays: is a valid document valid with its spreads put? It tells how many these are.
func stays(t *testing.T, d api.Doc, defs []api.Def) int {
	t.Helper()
	put, n := inlined(d)
	if l := checks(t, put, defs); l != nil {
		t.Errorf("%s:\nwith its spreads put, %s: %v", short(d), short(put), l)
	}
	return n
}

// P15.3: documents with fragments, and what they are without.
func TestInlined(t *testing.T) {
	defs := types(t, wide)
	for text, want := range map[string]string{
		"{a:__typename}": "{a:__typename}",
		"query A{queryT{...f}} query B{__typename} fragment f on T{a}":                                                                                      "query A{queryT{...on T{a}}} query B{__typename}",
		"{...f ...f@skip(if:true)} fragment f on Query{__typename}":                                                                                         "{...on Query{__typename} ...on Query@skip(if:true){__typename}}",
		"{queryT{...f ...g}} fragment f on T{c{...g} a} fragment g on T{u{...h@include(if:false)} ...{...i}} fragment h on U{x t{...i}} fragment i on T{a}": "{queryT{...on T{c{...on T{u{...on U@include(if:false){x t{...on T{a}}}} ...{...on T{a}}}} a} ...on T{u{...on U@include(if:false){x t{...on T{a}}}} ...{...on T{a}}}}}",
		"query A($i:ID!,$s:Boolean!){...f@skip(if:$s)} query B($i:ID!){...f} fragment f on Query{getT(id:$i){...g}} fragment g on T{a x:a}":                 "query A($i:ID!,$s:Boolean!){...on Query@skip(if:$s){getT(id:$i){...on T{a x:a}}}} query B($i:ID!){...on Query{getT(id:$i){...on T{a x:a}}}}",
		"mutation($i:[AddT!]=[]){...f ...f} fragment f on Mutation{addT(input:$i){...g c{...g}}} fragment g on T{b(first:1){a}}":                            "mutation($i:[AddT!]=[]){...on Mutation{addT(input:$i){...on T{b(first:1){a}} c{...on T{b(first:1){a}}}}} ...on Mutation{addT(input:$i){...on T{b(first:1){a}} c{...on T{b(first:1){a}}}}}}",
	} {
		d := read(t, text)
		breaks(t, d, defs)
		put, _ := inlined(d)
		if !reflect.DeepEqual(copied(put), copied(read(t, want))) {
			t.Errorf("%q: %s", text, short(put))
		}
		breaks(t, put, defs)
		if t.Failed() {
			t.Fatalf("%q", text)
		}
	}
}

// P15.3: made documents stay valid with their spreads put.
func TestInlinedMade(t *testing.T) {
	with := 0
	for i, x := range samples.Spread(2000) {
		d, defs := made(t, x, 30+i%400)
		if stays(t, d, defs) > 0 {
			with++
		}
		if t.Failed() {
			return
		}
	}
	if with < 500 {
		t.Errorf("only %d have spreads", with)
	}
}

// P15.3: so do changed ones, if they are still valid. (What a spread has of its own beside its directives no text comes to.)
func TestInlinedChanged(t *testing.T) {
	with, without := 0, 0
	for i, x := range samples.Spread(6000) {
		d, defs := changed(t, x, 30+i%200, 1+i%3)
		if print.Check(d) != api.OK || len(valid.Check(d, defs)) > 0 {
			without++
		} else if stays(t, d, defs) > 0 {
			with++
		}
		if t.Failed() {
			return
		}
	}
	if with < 200 || without < 1000 {
		t.Errorf("only %d have spreads, %d are not valid", with, without)
	}
}

// short documents are made of all rows of up to two selections in a set of T, with fragments that may be spread there.
func shortDocs(t *testing.T, each func(api.Doc)) {
	t.Helper()
	pieces := read(t, "{a x:a x:id nope c{a} c{...f} u{...h} t:u{a} b(first:1){a} b(first:1.5){id} b(first:$n){...g} ...f ...g ...h ...f@skip(if:true) ...g@include(if:$s) ...{...f} ...on T{...g} ...on U{...h} ...@skip(if:$s){a}}").Ops[0].Sels
	heads := read(t, "query{queryT{a}} query($n:Int){queryT{a}} query($s:Boolean!){queryT{a}} query($n:Int,$s:Boolean!){queryT{a}}").Ops
	for _, text := range []string{"", "fragment f on T{a}", "fragment f on T{...g x:a} fragment g on T{id}", "fragment f on T{c{...g}} fragment g on T{u{...h}} fragment h on U{x}", "fragment f on T{a@skip(if:$s)} fragment g on T{b(first:$n){...f}}", "fragment f on T{...g} fragment g on T{...f}", "fragment h on U{t{...f}} fragment f on T{x:a}"} {
		frags := read(t, "{a}"+text).Frags
		for _, row := range rows(2, pieces) {
			for _, op := range heads {
				op.Sels = []api.Sel{{Name: "queryT", Sels: append([]api.Sel{{Name: "__typename"}}, row...)}}
				each(api.Doc{Ops: []api.Op{op}, Frags: frags})
			}
		}
	}
}

// P15.3: all short documents that are valid stay so.
func TestInlinedShort(t *testing.T) {
	defs := types(t, wide)
	with, without := 0, 0
	shortDocs(t, func(d api.Doc) {
		if t.Failed() {
			return
		}
		if len(checks(t, d, defs)) > 0 {
			without++
		} else if stays(t, d, defs) > 0 {
			with++
		}
	})
	if with < 150 || without < 1000 {
		t.Errorf("only %d have spreads, %d are not valid", with, without)
	}
}

// What breaks no rule of fragments and has no directives at them breaks the same with its spreads put.
func TestInlinedSame(t *testing.T) {
	defs := types(t, wide)
	told := map[int]int{}
	ask := func(d api.Doc, defs []api.Def) {
		l := checks(t, d, defs)
		bare := !slices.ContainsFunc(d.Frags, func(f api.Frag) bool { return len(f.Directives) > 0 })
		fragile := slices.ContainsFunc(l, func(e api.Errno) bool { return e/10 == 12 })
		if t.Failed() || !bare || fragile || print.Check(d) != api.OK {
			return
		}
		put, n := inlined(d)
		if got := checks(t, put, defs); !slices.Equal(got, l) {
			t.Errorf("%s:\nwith its spreads put, %s: %v, not %v", short(d), short(put), got, l)
		}
		if n > 0 {
			told[layersOf(l)]++
		}
	}
	shortDocs(t, func(d api.Doc) { ask(d, defs) })
	for i, x := range samples.Spread(4000) {
		ask(changed(t, x, 30+i%200, 1+i%5))
	}
	if told[0] < 500 || told[1] < 500 || told[2] < 100 {
		t.Errorf("%v", told)
	}
}

// spreadNames are the names of all spreads in selections.
func spreadNames(l []api.Sel) []string {
	var names []string
	for _, x := range l {
		if x.Kind == api.SelSpread {
			names = append(names, x.Name)
		}
		names = append(names, spreadNames(x.Sels)...)
	}
	return names
}

// spread: is each fragment of a document spread there?
func spread(d api.Doc) bool {
	var names []string
	for _, x := range d.Ops {
		names = append(names, spreadNames(x.Sels)...)
	}
	for _, x := range d.Frags {
		names = append(names, spreadNames(x.Sels)...)
	}
	return !slices.ContainsFunc(d.Frags, func(f api.Frag) bool { return !slices.Contains(names, f.Name) })
}

// without asks a valid document without each of its operations, where another one is left: it is valid, if all fragments are spread there still, and breaks that rule alone, if not. It tells how many were the one, and the other.
func without(t *testing.T, d api.Doc, defs []api.Def) (int, int) {
	t.Helper()
	still, no := 0, 0
	for i := range d.Ops {
		rest := api.Doc{Ops: slices.Concat(d.Ops[:i], d.Ops[i+1:]), Frags: d.Frags}
		if len(rest.Ops) == 0 {
			continue
		}
		var want []api.Errno
		if spread(rest) {
			still++
		} else {
			want = of(123)
			no++
		}
		if l := checks(t, rest, defs); !slices.Equal(l, want) {
			t.Errorf("%s:\nwithout the operation %d: %v, not %v", short(d), i, l, want)
		}
	}
	return still, no
}

// P15.3: a valid document without one of its operations.
func TestWithout(t *testing.T) {
	defs := types(t, wide)
	for text, want := range map[string][2]int{
		"{queryT{a}}": {}, "query A{queryT{a}} query B{queryT{id}}": {2, 0}, "query A{queryT{...f}} mutation B{deleteT(filter:{})} fragment f on T{a}": {1, 1}, "query A{queryT{...f}} query B{c:queryT{...f}} fragment f on T{a}": {2, 0},
		"query A{queryT{...f}} query B{queryT{...g}} query C{getT(id:1){...f}} fragment f on T{...g} fragment g on T{a}":                                               {3, 0},
		"query A{queryT{...f}} query B{queryT{...g}} fragment f on T{c{...g}} fragment g on T{a}":                                                                      {1, 1},
		"query A($i:ID!){...f} query B($i:ID!,$n:Int){...f ...g} query C($n:Int=1){...g} fragment f on Query{getT(id:$i){a}} fragment g on Query{queryT(first:$n){a}}": {3, 0},
	} {
		d := read(t, text)
		breaks(t, d, defs)
		if still, no := without(t, d, defs); still != want[0] || no != want[1] {
			t.Errorf("%q: %d, %d, not %v", text, still, no, want)
		}
		if t.Failed() {
			t.Fatalf("%q", text)
		}
	}
}

// P15.3: the same of made documents, and of changed ones that are still valid: here trees that no text comes to, too.
func TestWithoutMade(t *testing.T) {
	still, no := 0, 0
	for i, x := range samples.Spread(6000) {
		d, defs := changed(t, x, 30+i%300, i%4)
		if len(checks(t, d, defs)) > 0 {
			continue
		}
		some, others := without(t, d, defs)
		still, no = still+some, no+others
		if t.Failed() {
			return
		}
	}
	if still < 1000 || no < 300 {
		t.Errorf("only %d are valid, %d not", still, no)
	}
}
