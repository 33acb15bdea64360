package emit

import (
	"cmp"
	"slices"

	"publican/api"
	"publican/code"
)

// plan tells how those constants are made for which a program's list of constants has no room.
type plan struct {
	recipes map[constant]recipe
	tables  []code.Table // beside the statute's
}

// recipe makes a constant of others, by an instruction behind them: of a row's key by at, or of two numbers by add or sub.
type recipe struct {
	parts   []constant
	name    string
	operand int
}

// planner decides which constants leave the list.
type planner struct {
	uses  map[constant]use
	fates map[constant]int
	over  int // how many must leave it still
	plan  plan
}

// The fates of constants; what the program has nowhere has none.
const (
	isFree = iota + 1
	isKept // in the list, since others are made of it
	isGone
)

// newPlan makes a plan for more constants than the list has room for. Where there is none, too many are left in the list.
func newPlan(uses map[constant]use, tables int) plan {
	p := &planner{
		uses: uses, fates: map[constant]int{}, over: len(uses) - maxConsts,
		plan: plan{recipes: map[constant]recipe{}, tables: make([]code.Table, tables)},
	}
	for v := range uses {
		p.fates[v] = isFree
	}
	p.toTables()
	p.toSums()
	return p.plan
}

// keep has a constant in the list, also one that was nowhere.
func (p *planner) keep(v constant) {
	if p.fates[v] == 0 {
		p.over++
	}
	p.fates[v] = isKept
}

func (p *planner) drop(v constant, r recipe) {
	p.fates[v] = isGone
	p.plan.recipes[v] = r
	p.over--
}

// listed tells the constants that are in the list, in an order.
func (p *planner) listed(order func(v, w constant) int) []constant {
	var l []constant
	for v, fate := range p.fates {
		if fate != isGone {
			l = append(l, v)
		}
	}
	slices.SortFunc(l, order)
	return l
}

func size(n int64) int64 { return max(n, -n) }

// toTables has constants stand in tables, which takes one instruction more wherever one is used.
func (p *planner) toTables() {
	keys := p.rowKeys()
	// Sums can't be had for high ones, and least for great ones.
	for _, v := range p.listed(func(v, w constant) int {
		a, b := p.uses[v], p.uses[w]
		return cmp.Or(
			cmp.Compare(min(b.high, 1), min(a.high, 1)), cmp.Compare(a.times, b.times),
			cmp.Compare(size(w.n), size(v.n)), cmp.Compare(v.kind, w.kind), cmp.Compare(v.n, w.n),
		)
	}) {
		isKey := v.kind == api.Count && slices.Contains(keys, v.n)
		if p.over > 0 && p.fates[v] == isFree && !isKey {
			p.toTable(v, keys)
		}
	}
	p.plan.tables = slices.DeleteFunc(p.plan.tables, func(t code.Table) bool { return len(t.Vals) == 0 })
}

// rowKeys tells the keys that the tables' rows have: counts that are in the list, those most used, which stay there best.
// One that is not in it would take the room that a row makes: it helps just where several tables have it.
func (p *planner) rowKeys() []int64 {
	var keys []int64
	for _, v := range p.listed(func(v, w constant) int {
		return cmp.Or(cmp.Compare(p.uses[w].times, p.uses[v].times), cmp.Compare(size(v.n), size(w.n)), cmp.Compare(v.n, w.n))
	}) {
		if v.kind == api.Count && len(keys) < maxRows {
			keys = append(keys, v.n)
		}
	}
	for n := int64(0); len(keys) < maxRows && len(p.plan.tables) > 1; n++ {
		if !slices.Contains(keys, n) {
			keys = append(keys, n)
		}
	}
	slices.Sort(keys)
	return keys
}

// toTable has one stand in the first table of its kind, or of none yet, that has room.
func (p *planner) toTable(v constant, keys []int64) {
	at := slices.IndexFunc(p.plan.tables, func(t code.Table) bool {
		return len(t.Vals) == 0 || t.Val == v.kind && len(t.Vals) < len(keys)
	})
	if at < 0 || len(keys) == 0 {
		return
	}
	t := &p.plan.tables[at]
	row := len(t.Vals)
	*t = code.Table{Key: api.Count, Val: v.kind, Keys: slices.Clone(keys[:row]), Vals: append(t.Vals, v.n)} // the last row has no key
	key := constant{api.Count, keys[row]}
	p.keep(key)
	p.drop(v, recipe{[]constant{key}, "at", at})
}

// pair is a constant, and another one of which it may be made.
type pair struct{ v, base constant }

// toSums has constants be made of two others, which takes two instructions more wherever one is used: so of those that are used least first.
func (p *planner) toSums() {
	for _, most := range p.times() {
		if p.over <= 0 {
			return
		}
		pairs := p.pairs(most)
		var steps []constant
		for step := range pairs {
			steps = append(steps, step)
		}
		slices.SortFunc(steps, func(v, w constant) int {
			return cmp.Or(cmp.Compare(len(pairs[w]), len(pairs[v])), cmp.Compare(v.kind, w.kind), cmp.Compare(v.n, w.n))
		})
		for _, step := range steps {
			p.toSumsBy(step, pairs[step])
		}
	}
}

// times tells how often constants are used.
func (p *planner) times() []int {
	var l []int
	for _, u := range p.uses {
		l = append(l, u.times)
	}
	slices.Sort(l)
	return slices.Compact(l)
}

// pairs tells which constants that are used so often at most are so much beside others, by how much that is.
func (p *planner) pairs(most int) map[constant][]pair {
	const nearest = 32 // of so many others, so that it takes no long time
	l := p.listed(func(v, w constant) int {
		return cmp.Or(cmp.Compare(v.kind, w.kind), cmp.Compare(sign(v.n), sign(w.n)), cmp.Compare(size(v.n), size(w.n)))
	})
	pairs := map[constant][]pair{}
	for i, v := range l {
		u := p.uses[v]
		if p.fates[v] != isFree || v.kind == api.Bool || u.high > 0 || u.times > most {
			continue
		}
		for _, base := range l[max(0, i-nearest):i] {
			if base.kind == v.kind && sign(base.n) == sign(v.n) {
				step := constant{v.kind, size(v.n - base.n)}
				if v.kind == api.Date {
					step.kind = api.Count
				}
				pairs[step] = append(pairs[step], pair{v, base})
			}
		}
	}
	return pairs
}

func sign(n int64) int { return cmp.Compare(n, 0) }

// toSumsBy has the first ones of these pairs be made of the second ones and the step between them, if that makes room.
func (p *planner) toSumsBy(step constant, pairs []pair) {
	isOpen := func(pr pair) bool {
		return p.fates[pr.v] == isFree && pr.v != step && p.fates[pr.base] != isGone
	}
	var open []pair
	for _, pr := range pairs {
		if isOpen(pr) {
			open = append(open, pr)
		}
	}
	needed := 1
	if p.fates[step] == 0 {
		needed = 2
	}
	if p.over <= 0 || p.fates[step] == isGone || len(open) < needed {
		return
	}
	p.keep(step)
	for _, pr := range open {
		if p.over > 0 && isOpen(pr) {
			p.keep(pr.base)
			p.drop(pr.v, sum(pr, step))
		}
	}
}

// sum makes a pair's first of its second, which is nearer to 0, or is 0: an add or sub of whatever is fitting both goes one way.
func sum(pr pair, step constant) recipe {
	name := "add"
	if pr.v.n < 0 {
		name = "sub"
	}
	return recipe{[]constant{pr.base, step}, name, int(pr.v.kind)}
}
