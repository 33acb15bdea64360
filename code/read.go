package code

import (
	"bytes"

	"publican/api"
	"publican/pack"
)

// Decode reads it.
func Decode(b []byte) (Program, api.Errno) {
	if len(b) < len(mark)+sumBytes {
		return Program{}, api.EFORM
	}
	p := readProgram(pack.Read(b[len(mark) : len(b)-sumBytes]))
	// All that could be wrong with b shows here: another mark or sum, what can't be read, bytes that are left.
	if !bytes.Equal(Encode(p), b) {
		return Program{}, api.EFORM
	}
	return p, api.OK
}

func readProgram(r *pack.Reader) Program {
	return Program{
		Consts: readList(r, readConstant),
		Tables: readList(r, readTable),
		Inputs: readList(r, readNumber[api.Kind]),
		Outs:   readList(r, readNumber[api.Kind]),
		Slots:  readList(r, readNumber[api.Kind]),
		Names:  readList(r, (*pack.Reader).S),
		Code:   readList(r, readInstr),
	}
}

// readList reads how many items there are, and them. The bytes may tell of more than they have: what is bad ends the reading.
func readList[T any](r *pack.Reader, read func(*pack.Reader) T) []T {
	var items []T
	for n := r.U(); n > 0 && !r.Bad(); n-- {
		items = append(items, read(r))
	}
	return items
}

func readNumber[T ~int | ~int64](r *pack.Reader) T { return T(r.I()) }

func readConstant(r *pack.Reader) api.Value {
	return api.Value{Kind: readNumber[api.Kind](r), N: r.I()}
}

func readTable(r *pack.Reader) Table {
	return Table{
		Key:  readNumber[api.Kind](r),
		Val:  readNumber[api.Kind](r),
		Keys: readList(r, readNumber[int64]),
		Vals: readList(r, readNumber[int64]),
	}
}

func readInstr(r *pack.Reader) Instr {
	return Instr{
		Op: readNumber[int](r),
		A:  readNumber[int](r),
		B:  readNumber[int](r),
		C:  readNumber[int](r),
	}
}
