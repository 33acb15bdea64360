package mean

import (
	"slices"

	"publican/api"
	"publican/syn"
	"publican/typ"
)

// reckoner works the rules of a statute out that has no fault.
type reckoner struct {
	statute syn.Node
	decls   map[string]syn.Node
	values  map[string]api.Value // of inputs, of rules that are done, and of the sums around
}

// newReckoner takes values that fit.
func newReckoner(n syn.Node, in []api.Value) *reckoner {
	r := &reckoner{statute: n, decls: map[string]syn.Node{}, values: map[string]api.Value{}}
	for _, d := range n.Kids {
		r.decls[d.Name] = d
	}
	for i, f := range typ.Inputs(n) {
		v := api.Value{Kind: f.Kind, N: in[i].N}
		if f.Kind == api.List {
			v.L = in[i].L // of the others even an empty L stays behind: their values may be answered
		}
		r.values[f.Name] = v
	}
	return r
}

// rule works a rule out, behind those it names.
func (r *reckoner) rule(name string) api.Errno {
	v, e := r.value(r.withKinds(r.decls[name].Kids[0], nil))
	if e == api.OK {
		r.values[name] = v
	}
	return e
}

// answer tells the rules' values, in the text's order.
func (r *reckoner) answer() []api.Value {
	var l []api.Value
	for _, f := range typ.Rules(r.statute) {
		l = append(l, r.values[f.Name])
	}
	return l
}

// withKinds copies an expression and gives each sum its kind: where the list is empty, no value tells it.
func (r *reckoner) withKinds(e syn.Node, around []typ.Field) syn.Node {
	kids := make([]syn.Node, len(e.Kids))
	for i, kid := range e.Kids {
		if e.Op == "sum" && i == 1 {
			around = append(slices.Clone(around), typ.Field{Name: e.Name, Kind: api.Money})
			e.Kind = typ.Of(r.statute, kid, around...)
		}
		kids[i] = r.withKinds(kid, around)
	}
	e.Kids = kids
	return e
}

// value works an expression out whose sums have their kinds.
func (r *reckoner) value(e syn.Node) (api.Value, api.Errno) {
	switch e.Op {
	case "lit":
		return api.Value{Kind: e.Kind, N: e.N}, api.OK
	case "name":
		return r.values[e.Name], api.OK
	}
	first, err := r.value(e.Kids[0])
	if err != api.OK {
		return api.Value{}, err
	}
	switch e.Op {
	case "if":
		if isTrue(first) {
			return r.value(e.Kids[1])
		}
		return r.value(e.Kids[2])
	case "and", "or":
		if decides(e.Op, first) {
			return first, api.OK
		}
		return r.value(e.Kids[1])
	case "sum":
		return r.sum(e, first.L)
	case "len":
		return api.Value{Kind: api.Count, N: int64(len(first.L))}, api.OK
	case "at":
		t := r.decls[e.Name]
		return api.Value{Kind: t.Kind, N: At(t, first.N)}, api.OK
	case "neg", "not":
		return Op(e.Op, first, api.Value{})
	}
	second, err := r.value(e.Kids[1])
	if err != api.OK {
		return api.Value{}, err
	}
	return Op(e.Op, first, second)
}

func (r *reckoner) sum(e syn.Node, list []int64) (api.Value, api.Errno) {
	total := api.Value{Kind: e.Kind}
	for _, money := range list {
		// No declaration and no sum around has the name, so nothing is hidden.
		r.values[e.Name] = api.Value{Kind: api.Money, N: money}
		each, err := r.value(e.Kids[1])
		if err == api.OK {
			total, err = Op("+", total, each)
		}
		if err != api.OK {
			return api.Value{}, err
		}
	}
	return total, api.OK
}
