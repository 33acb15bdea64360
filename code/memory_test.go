package code

import (
	"bytes"
	"testing"

	"publican/api"
)

// roomy makes the same list with spare room, filled with marks.
func roomy[T any](l []T, mark T) []T {
	return append(append([]T{}, l...), mark, mark, mark)[:len(l)]
}

// spoil writes over all that a list has room for.
func spoil[T any](l []T, mark T) {
	l = l[:cap(l)]
	for i := range l {
		l[i] = mark
	}
}

// marks are what a spare room is filled with.
var (
	markInstr = Instr{91, 92, 93, 94}
	markValue = api.Value{Kind: 95, N: 96}
)

func roomyProgram() Program {
	p := full()
	for i, t := range p.Tables {
		p.Tables[i].Keys, p.Tables[i].Vals = roomy(t.Keys, 97), roomy(t.Vals, 98)
	}
	return Program{
		Consts: roomy(p.Consts, markValue), Tables: roomy(p.Tables, Table{Key: 99}),
		Inputs: roomy(p.Inputs, 81), Outs: roomy(p.Outs, 82), Slots: roomy(p.Slots, 83),
		Names: roomy(p.Names, "spare"), Code: roomy(p.Code, markInstr),
	}
}

// withRoom is a program with its lists as long as their room.
func withRoom(p Program) Program {
	q := Program{
		Consts: p.Consts[:cap(p.Consts)],
		Inputs: p.Inputs[:cap(p.Inputs)], Outs: p.Outs[:cap(p.Outs)], Slots: p.Slots[:cap(p.Slots)],
		Names: p.Names[:cap(p.Names)], Code: p.Code[:cap(p.Code)],
	}
	for _, t := range p.Tables[:cap(p.Tables)] {
		t.Keys, t.Vals = t.Keys[:cap(t.Keys)], t.Vals[:cap(t.Vals)]
		q.Tables = append(q.Tables, t)
	}
	return q
}

func TestWhatIsHandedInStays(t *testing.T) {
	p := roomyProgram()
	Encode(p)
	Same(p, p)
	Same(p, Program{})
	if !alike(withRoom(p), withRoom(roomyProgram())) {
		t.Errorf("R4: a call writes into the program that it is handed: %+v", withRoom(p))
	}
	b := roomy(Encode(p), 77)
	was := bytes.Clone(b[:cap(b)])
	Decode(b)
	Decode(b[:len(b)-1])
	if !bytes.Equal(b[:cap(b)], was) {
		t.Errorf("R4: Decode writes into the bytes that it is handed: %v", b[:cap(b)])
	}
}

func TestBytesAreNewMemory(t *testing.T) {
	p := full()
	one, two := Encode(p), Encode(p)
	spoil(one, 7)
	if !bytes.Equal(two, whole(modelBody(full()))) || !alike(p, full()) {
		t.Errorf("R4: what Encode answers shares its memory")
	}
	if !bytes.Equal(Encode(p), two) {
		t.Errorf("R5: Encode answers otherwise, behind a change of what it answered")
	}
}

// spoilers each write over one list's room.
func spoilers(p Program) []func() {
	l := []func(){
		func() { spoil(p.Consts, markValue) },
		func() { spoil(p.Inputs, 61) },
		func() { spoil(p.Outs, 62) },
		func() { spoil(p.Slots, 63) },
		func() { spoil(p.Names, "spoilt") },
		func() { spoil(p.Code, markInstr) },
	}
	for _, t := range p.Tables {
		l = append(l, func() { spoil(t.Keys, 64) }, func() { spoil(t.Vals, 65) })
	}
	return append(l, func() { spoil(p.Tables, Table{Key: 66}) })
}

func TestProgramIsNewMemory(t *testing.T) {
	b := Encode(full())
	for i := range spoilers(full()) {
		p, _ := Decode(b)
		q, _ := Decode(b)
		told := modelBody(p)
		spoilers(p)[i]()
		if !alike(q, full()) || !bytes.Equal(b, Encode(full())) {
			t.Errorf("R4: list %d of what Decode answers shares its memory", i)
		}
		if bytes.Equal(modelBody(p), told) {
			t.Fatalf("list %d: nothing is spoilt", i)
		}
		wantOneChanged(t, i, p, full())
	}
	p, _ := Decode(b)
	spoil(b, 0)
	if !alike(p, full()) {
		t.Errorf("R4: what Decode answers shares its memory with the bytes")
	}
}

// wantOneChanged looks that just one list of p is another than that of q.
func wantOneChanged(t *testing.T, told int, p, q Program) {
	t.Helper()
	changed := 0
	look := func(one, two Program) {
		if !alike(one, two) {
			changed++
		}
	}
	look(Program{Consts: p.Consts}, Program{Consts: q.Consts})
	look(Program{Inputs: p.Inputs}, Program{Inputs: q.Inputs})
	look(Program{Outs: p.Outs}, Program{Outs: q.Outs})
	look(Program{Slots: p.Slots}, Program{Slots: q.Slots})
	look(Program{Names: p.Names}, Program{Names: q.Names})
	look(Program{Code: p.Code}, Program{Code: q.Code})
	if told == len(spoilers(full()))-1 {
		look(Program{Tables: p.Tables}, Program{Tables: q.Tables})
	} else {
		for i := range p.Tables {
			look(Program{Tables: []Table{{Keys: p.Tables[i].Keys}}}, Program{Tables: []Table{{Keys: q.Tables[i].Keys}}})
			look(Program{Tables: []Table{{Vals: p.Tables[i].Vals}}}, Program{Tables: []Table{{Vals: q.Tables[i].Vals}}})
		}
	}
	if changed != 1 {
		t.Errorf("R4: writing over list %d of what Decode answers changes %d lists", told, changed)
	}
}
