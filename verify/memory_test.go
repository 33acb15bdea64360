package verify

import (
	"math"
	"math/rand"
	"reflect"
	"testing"

	"publican/api"
	"publican/code"
)

// TestStays checks R4: the program that is handed in stays as it is, spare room too.
func TestStays(t *testing.T) {
	for _, text := range []string{
		"mark 0; const COUNT; first LIST ONE 5; load 6; store MONEY; next LIST ONE 3; out 0; halt",
		"mark 0; const COUNT; first LIST ONE 6; load 6; store MONEY; next LIST ONE 3; out 0; halt",
	} {
		p, same := built("count", text), built("count", text)
		p.Code = append(p.Code, code.Instr{Op: 99})[:len(p.Code)]
		p.Slots = append(p.Slots, 77)[:len(p.Slots)]
		one, two := told(p), told(p)
		if one != two || !reflect.DeepEqual(p, same) || p.Code[:len(p.Code)+1][len(p.Code)].Op != 99 || p.Slots[:len(p.Slots)+1][len(p.Slots)] != 77 {
			t.Errorf("R4, R5: %s, then %s; %v", one, two, p)
		}
	}
}

// TestWild checks R1: no numbers make it panic.
func TestWild(t *testing.T) {
	rng := rand.New(rand.NewSource(18))
	edges := []int{math.MinInt, -1, 0, 0, 1, 1, 2, 3, 5, 6, 7, 8, 63, 64, math.MaxInt - 1, math.MaxInt}
	pick := func() int { return edges[rng.Intn(len(edges))] }
	for range 20000 {
		p := built("count", "halt")
		p.Code = nil
		for range rng.Intn(6) {
			p.Code = append(p.Code, code.Instr{Op: rng.Intn(26) - 1, A: pick(), B: pick(), C: pick()})
		}
		p.Code = append(p.Code, code.Instr{Op: 23, A: pick()})
		if rng.Intn(4) == 0 {
			p = code.Program{Code: p.Code, Outs: []api.Kind{api.Kind(pick())}, Inputs: []api.Kind{api.Kind(pick())}, Slots: []api.Kind{api.Kind(pick())}, Names: make([]string, rng.Intn(3))}
			p.Consts = []api.Value{{Kind: api.Kind(pick()), N: int64(pick())}}
			p.Tables = []code.Table{{Key: api.Kind(pick()), Val: api.Kind(pick()), Keys: make([]int64, rng.Intn(3)), Vals: make([]int64, rng.Intn(3))}}
		}
		b, f, ok := Check(p)
		if ok != (f == Fault{}) || ok == (b == Bound{}) || !ok && (f.Rule < 1 || f.Rule > 7 || f.PC < -1 || f.PC >= len(p.Code)) {
			t.Fatalf("R2: %v: %v, %v, %v", p, b, f, ok)
		}
	}
}
