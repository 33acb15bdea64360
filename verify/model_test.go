package verify_test

import (
	"fmt"
	"math/rand"
	"slices"
	"strings"
	"testing"

	"publican/api"
	"publican/code"
	"publican/mach"
	"publican/verify"
)

// instructions has of each what its operands are (c a constant, v an input, l a list, s a slot, t a table, o an output, p a pair of slots,
// 1 to 3 a kind: from bool, from count, from count to rate; . a place) and the stacks that it takes and puts.
// A stack's letters are b c m r d; A is the kind A's, X what the operand's is, K and V a table's.
const instructions = `
const c: >X | in v: >X | load s: >X | store s: X> | not : b>b | len l: >c | at t: K>V | jump .: > | unless .: b> | first lp.: > | next lp.: > | mark o: > | out o: X> | halt : >
add 2: cc>c mm>m rr>r dc>d | sub 2: cc>c dd>c mm>m rr>r dc>d | mul 3: cc>c mc>m cm>m mr>m rm>m rc>r cr>r | div 3: cc>c mc>m mm>r
neg 3: A>A | lt 2: AA>b | le 2: AA>b | eq 1: AA>b | min 2: AA>A | max 2: AA>A`

// form is one of them.
type form struct{ operands, effects string }

func readForms() map[string]form {
	forms := map[string]form{}
	for _, line := range strings.Split(strings.TrimSpace(instructions), "\n") {
		for _, s := range strings.Split(line, " | ") {
			head, effects, _ := strings.Cut(s, ": ")
			name, operands, _ := strings.Cut(head, " ")
			forms[name] = form{operands, effects}
		}
	}
	return forms
}

const letters = ".bcmrdL"

func letter(k api.Kind) string { return letters[k : k+1] }

// model asks the rules of a program whose lists are well, each word by word.
type model struct {
	p     code.Program
	forms map[string]form
	loops map[[2]int]code.Instr // from a first to its next
}

func (m *model) name(pc int) string { return code.Name(m.p.Code[pc].Op) }

func within(n, least, most int) bool { return n >= least && n <= most }

// operand tells whether one of an instruction is as its form asks.
func (m *model) operand(c rune, n int) bool {
	switch c {
	case 'c':
		return within(n, 0, len(m.p.Consts)-1)
	case 'v':
		return within(n, 0, len(m.p.Inputs)-1) && m.p.Inputs[n] != api.List
	case 'l':
		return within(n, 0, len(m.p.Inputs)-1) && m.p.Inputs[n] == api.List
	case 's':
		return within(n, 0, len(m.p.Slots)-1)
	case 't':
		return within(n, 0, len(m.p.Tables)-1)
	case 'o':
		return within(n, 0, len(m.p.Outs)-1)
	case 'p':
		return within(n, 0, len(m.p.Slots)-2) && m.p.Slots[n] == api.Count && m.p.Slots[n+1] == api.Money
	case '1':
		return within(n, 1, 5)
	case '2':
		return within(n, 2, 5)
	case '3':
		return within(n, 2, 4)
	}
	return true
}

func (m *model) third(pc int) bool {
	form, ok := m.forms[m.name(pc)]
	i := m.p.Code[pc]
	for k, c := range form.operands {
		ok = ok && m.operand(c, [...]int{i.A, i.B, i.C}[k])
	}
	return ok
}

// around tells the loops that a place is in.
func (m *model) around(pc int) map[[2]int]bool {
	in := map[[2]int]bool{}
	for l := range m.loops {
		if pc > l[0] && pc <= l[1] {
			in[l] = true
		}
	}
	return in
}

func (m *model) fourth(pc int) bool {
	i := m.p.Code[pc]
	to := i.A
	switch m.name(pc) {
	case "next":
		_, ok := m.loops[[2]int{i.C - 1, pc}]
		return ok
	case "first":
		for l := range m.around(pc) {
			b := m.loops[l].B
			if b-1 <= i.B && i.B <= b+1 {
				return false
			}
		}
		to = i.C
		if _, ok := m.loops[[2]int{pc, to - 1}]; !ok {
			return false
		}
	case "store":
		for l := range m.around(pc) {
			if i.A == m.loops[l].B || i.A == m.loops[l].B+1 {
				return false
			}
		}
		return true
	case "jump", "unless":
	default:
		return true
	}
	return within(to, pc+1, len(m.p.Code)-1) && fmt.Sprint(m.around(pc)) == fmt.Sprint(m.around(to))
}

// findLoops reads the loops from their nexts.
func (m *model) findLoops() {
	m.loops = map[[2]int]code.Instr{}
	for n, i := range m.p.Code {
		f := i.C - 1
		if m.name(n) != "next" || !within(f, 0, n-1) || m.name(f) != "first" {
			continue
		}
		if j := m.p.Code[f]; j.A == i.A && j.B == i.B && j.C == n+1 {
			m.loops[[2]int{f, n}] = i
		}
	}
}

// effects tells which stacks an instruction takes and what it puts for each, written with a > between.
func (m *model) effects(pc int) []string {
	i := m.p.Code[pc]
	s := m.forms[m.name(pc)].effects
	put := func(mark string, k api.Kind) { s = strings.ReplaceAll(s, mark, letter(k)) }
	switch m.name(pc) {
	case "const":
		put("X", m.p.Consts[i.A].Kind)
	case "in":
		put("X", m.p.Inputs[i.A])
	case "load", "store":
		put("X", m.p.Slots[i.A])
	case "out":
		put("X", m.p.Outs[i.A])
	case "at":
		put("K", m.p.Tables[i.A].Key)
		put("V", m.p.Tables[i.A].Val)
	case "neg", "lt", "le", "eq", "min", "max":
		put("A", api.Kind(i.A))
	case "add", "sub", "mul", "div":
		l := slices.DeleteFunc(strings.Fields(s), func(one string) bool { return !strings.HasSuffix(one, ">"+letter(api.Kind(i.A))) })
		return l
	}
	return []string{s}
}

func (m *model) stack(pc int, stack string) (string, bool) {
	if m.name(pc) == "halt" {
		return "", stack == ""
	}
	for _, s := range m.effects(pc) {
		take, put, _ := strings.Cut(s, ">")
		if rest, ok := strings.CutSuffix(stack, take); ok {
			return rest + put, len(rest+put) <= 64
		}
	}
	return "", false
}

// outs has a state's marked output, then a letter for each that is out.
func (m *model) outs(pc int, state string) (string, bool) {
	this := string(rune('A' + m.p.Code[pc].A))
	switch m.name(pc) {
	case "mark":
		return this + state[1:], true
	case "out":
		return state + this, state[:1] == this && !strings.Contains(state[1:], this)
	case "halt":
		return state, len(state)-1 == len(m.p.Outs)
	}
	return state, true
}

func (m *model) onward(pc int) []int {
	i := m.p.Code[pc]
	switch m.name(pc) {
	case "halt":
		return nil
	case "jump":
		return []int{i.A}
	case "unless":
		return []int{i.A, pc + 1}
	case "first", "next":
		return []int{i.C, pc + 1}
	}
	return []int{pc + 1}
}

// brought gathers all that all ways bring to all places, where only the first places are left again; false, if something is wrong there.
func (m *model) brought(places int, start string, step func(pc int, s string) (string, bool)) (map[int]string, bool) {
	met := map[int]string{0: start}
	for work := []int{0}; len(work) > 0; work = work[1:] {
		pc := work[0]
		if pc >= places {
			continue
		}
		s, ok := step(pc, met[pc])
		if !ok {
			return nil, false
		}
		for _, to := range m.onward(pc) {
			elder, known := met[to]
			if known && elder != s {
				return nil, false
			}
			if !known {
				met[to] = s
				work = append(work, to)
			}
		}
	}
	return met, true
}

// flow tells the fault of what the ways bring: the least place which, left again, makes something wrong.
func (m *model) flow(start string, step func(pc int, s string) (string, bool)) int {
	for pc := range m.p.Code {
		if _, ok := m.brought(pc+1, start, step); !ok {
			return pc
		}
	}
	return -1
}

// steps tells the most from a place to an end, the end too.
func (m *model) steps(pc, end int) int64 {
	if pc == end {
		return 1
	}
	i := m.p.Code[pc]
	switch m.name(pc) {
	case "jump":
		return 1 + m.steps(i.A, end)
	case "unless":
		return 1 + max(m.steps(i.A, end), m.steps(pc+1, end))
	case "first":
		return 1 + 16*m.steps(pc+1, i.C-1) + m.steps(i.C, end)
	}
	return 1 + m.steps(pc+1, end)
}

// told tells what the rules say, as shown does of Check.
func (m *model) told() string {
	last := len(m.p.Code) - 1
	for pc := range m.p.Code {
		if (m.name(pc) == "halt") != (pc == last) {
			return fmt.Sprint("rule 2 at ", pc)
		}
	}
	for pc := range m.p.Code {
		if !m.third(pc) {
			return fmt.Sprint("rule 3 at ", pc)
		}
	}
	m.findLoops()
	for pc := range m.p.Code {
		if !m.fourth(pc) {
			return fmt.Sprint("rule 4 at ", pc)
		}
	}
	if pc := m.flow("", m.stack); pc >= 0 {
		return fmt.Sprint("rule 5 at ", pc)
	}
	for pc := range m.p.Code {
		if name := m.name(pc); (name == "mark" || name == "out") && len(m.around(pc)) > 0 {
			return fmt.Sprint("rule 6 at ", pc)
		}
	}
	if pc := m.flow(".", m.outs); pc >= 0 {
		return fmt.Sprint("rule 6 at ", pc)
	}
	stacks, _ := m.brought(len(m.p.Code), "", m.stack)
	high := 0
	for _, s := range stacks {
		high = max(high, len(s))
	}
	return fmt.Sprintf("steps %d, stack %d", m.steps(0, last), high)
}

func shown(p code.Program) string {
	b, f, ok := verify.Check(p)
	if ok {
		return fmt.Sprintf("steps %d, stack %d", b.Steps, b.Stack)
	}
	return fmt.Sprintf("rule %d at %d", f.Rule, f.PC)
}

// maker makes programs that verify takes, but for some marks and outs, and changes them.
type maker struct {
	rng   *rand.Rand
	p     code.Program
	forms map[string]form
	loops int // how many are around
}

func (m *maker) add(name string, operands ...int) int {
	var all [3]int
	copy(all[:], operands)
	for op := range 24 {
		if code.Name(op) == name {
			m.p.Code = append(m.p.Code, code.Instr{Op: op, A: all[0], B: all[1], C: all[2]})
		}
	}
	return len(m.p.Code) - 1
}

// push makes instructions that put a kind on the stack.
func (m *maker) push(kind byte, size int) {
	n := strings.IndexByte(letters, kind)
	if size <= 0 {
		m.add([]string{"const", "in", "load"}[m.rng.Intn(3)], n-1)
		return
	}
	names := strings.Fields("add sub mul div neg lt le eq min max not at len")
	for range 50 {
		name := names[m.rng.Intn(len(names))]
		a := n
		if kind == 'b' && name != "not" && name != "at" {
			a = 1 + m.rng.Intn(5) // what is held against each other
		}
		if name == "at" {
			a = m.rng.Intn(len(m.p.Tables))
		}
		if name == "len" {
			a = 5 + m.rng.Intn(2)
		}
		try := model{p: m.p, forms: m.forms}
		try.p.Code = (&maker{}).with(name, a)
		if !try.third(0) {
			continue
		}
		effects := try.effects(0)
		take, put, _ := strings.Cut(effects[m.rng.Intn(len(effects))], ">")
		if put != string(kind) {
			continue
		}
		for i := range take {
			m.push(take[i], m.rng.Intn(size))
		}
		m.add(name, a)
		return
	}
	m.push(kind, 0)
}

func (m *maker) with(name string, a int) []code.Instr {
	m.add(name, a)
	return m.p.Code
}

// block makes instructions that leave the stack as it is.
func (m *maker) block(size int) {
	for range m.rng.Intn(4) {
		if m.rng.Intn(30) == 0 && len(m.p.Outs) > 0 {
			m.add("mark", m.rng.Intn(len(m.p.Outs))) // which may be one too many
		}
		switch m.rng.Intn(5) {
		case 0, 1:
			k := m.rng.Intn(5)
			m.push(letters[k+1], m.rng.Intn(3))
			m.add("store", k)
		case 2:
			at := m.add("jump")
			if size > 0 {
				m.block(size - 1)
			}
			m.p.Code[at].A = len(m.p.Code)
		case 3:
			m.push('b', m.rng.Intn(3))
			at := m.add("unless")
			if size > 0 {
				m.block(size - 1)
			}
			over := m.add("jump")
			m.p.Code[at].A = len(m.p.Code)
			if size > 0 {
				m.block(size - 1)
			}
			m.p.Code[over].A = len(m.p.Code)
			m.add("jump", len(m.p.Code)+1) // so that a place behind is in the same loop
		case 4:
			m.loop(size)
		}
	}
}

func (m *maker) loop(size int) {
	if m.loops == 2 {
		return
	}
	list, slot := 5+m.rng.Intn(2), 5+2*m.loops
	m.loops++
	at := m.add("first", list, slot)
	if size > 0 {
		m.block(size - 1)
	}
	m.add("next", list, slot, at+1)
	m.p.Code[at].C = len(m.p.Code)
	m.loops--
}

func (m *maker) program() code.Program {
	m.p = code.Program{
		Consts: []api.Value{{Kind: api.Bool, N: 1}, {Kind: api.Count, N: 5}, {Kind: api.Money, N: -700}, {Kind: api.Rate, N: 50000}, {Kind: api.Date, N: 40000}},
		Tables: []code.Table{{Key: 2, Val: 3, Keys: []int64{1, 5}, Vals: []int64{0, 100, 200}}, {Key: 3, Val: 2, Vals: []int64{7}}, {Key: 5, Val: 1, Vals: []int64{1}}, {Key: 2, Val: 4, Vals: []int64{7}}, {Key: 2, Val: 5, Vals: []int64{7}}},
		Inputs: []api.Kind{1, 2, 3, 4, 5, 6, 6},
		Slots:  []api.Kind{1, 2, 3, 4, 5, 2, 3, 2, 3},
	}
	for i := range m.rng.Intn(4) {
		k := 1 + m.rng.Intn(5)
		m.p.Outs = append(m.p.Outs, api.Kind(k))
		m.p.Names = append(m.p.Names, fmt.Sprint("o", i))
	}
	for _, i := range m.rng.Perm(len(m.p.Outs)) {
		if m.rng.Intn(20) == 0 {
			i = m.rng.Intn(len(m.p.Outs)) // which may be one twice, and another not at all
		}
		m.block(2)
		m.add("mark", i)
		m.block(1)
		m.push(letters[m.p.Outs[i]], m.rng.Intn(4))
		m.add("out", i)
	}
	m.block(2)
	m.add("halt")
	return m.p
}

// change changes something somewhere.
func (m *maker) change(l []code.Instr) []code.Instr {
	at := m.rng.Intn(len(l))
	switch m.rng.Intn(6) {
	case 0:
		l[at].Op = m.rng.Intn(26) - 1
	case 1:
		l[at].A += m.rng.Intn(5) - 2
	case 2:
		l[at].B += m.rng.Intn(5) - 2
	case 3:
		l[at].C += m.rng.Intn(5) - 2
	case 4:
		l[at].A = m.rng.Intn(len(l)+2) - 1
	case 5:
		other := m.rng.Intn(len(l))
		l[at], l[other] = l[other], l[at]
	}
	return l
}

func (m *maker) in() []api.Value {
	var l []api.Value
	for k := range 7 {
		v := api.Value{Kind: api.Kind(min(k+1, 6)), N: m.rng.Int63n(2)}
		if v.Kind == api.List {
			v.N = 0
			for range m.rng.Intn(17) * m.rng.Intn(2) {
				v.L = append(v.L, m.rng.Int63n(1000)-300)
			}
		}
		l = append(l, v)
	}
	return l
}

// TestMade holds Check of made and changed programs against the chapter's words; what it takes is run (T1, P18.2).
func TestMade(t *testing.T) {
	m := &maker{rng: rand.New(rand.NewSource(17)), forms: readForms()}
	rules := map[string]int{}
	for range 30000 {
		p := m.program()
		if len(p.Code) > 60 {
			continue
		}
		for range m.rng.Intn(4) {
			p.Code = m.change(p.Code)
		}
		want := (&model{p: p, forms: m.forms}).told()
		if got := shown(p); got != want {
			var l []string
			for pc, i := range p.Code {
				l = append(l, fmt.Sprint(pc, ": ", code.Show(i)))
			}
			t.Fatalf("P17.1: %s: %s, want %s", strings.Join(l, ", "), got, want)
		}
		rules[want[:6]]++
		if want[:6] == "steps " {
			m.run(t, p)
		}
	}
	for rule, least := range map[string]int{"steps ": 5000, "rule 2": 500, "rule 3": 3000, "rule 4": 1000, "rule 5": 1000, "rule 6": 300} {
		if rules[rule] < least {
			t.Errorf("%s: just %d of %v", rule, rules[rule], rules)
		}
	}
}

func (m *maker) run(t *testing.T, p code.Program) {
	t.Helper()
	b, _, _ := verify.Check(p)
	for range 3 {
		o, e := mach.Run(p, m.in())
		if e != api.OK || o.Steps < 1 || o.Steps > b.Steps {
			t.Fatalf("P18.2: %v, %v, bound %v", o, e, b)
		}
		for i, v := range o.Values {
			if v.Kind != p.Outs[i] {
				t.Fatalf("P18.1: output %d of kind %d, want %d", i, v.Kind, p.Outs[i])
			}
		}
	}
}
