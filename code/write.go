package code

import (
	"publican/api"
	"publican/pack"
)

// mark is what a program's bytes begin with.
const mark = "FISC"

// sumBytes is how many of them the sum at their end takes.
const sumBytes = 4

// Encode makes a program bytes.
func Encode(p Program) []byte {
	b := []byte(mark)
	b = list(b, p.Consts, constant)
	b = list(b, p.Tables, table)
	b = list(b, p.Inputs, number[api.Kind])
	b = list(b, p.Outs, number[api.Kind])
	b = list(b, p.Slots, number[api.Kind])
	b = list(b, p.Names, text)
	b = list(b, p.Code, instr)
	return sealed(b)
}

// sealed writes b's sum behind it.
func sealed(b []byte) []byte {
	sum := pack.Sum(b)
	for range sumBytes {
		b = append(b, byte(sum))
		sum >>= 8
	}
	return b
}

// list writes how many items there are, and them, behind b.
func list[T any](b []byte, items []T, write func([]byte, T) []byte) []byte {
	b = append(b, pack.U(nil, uint64(len(items)))...)
	for _, item := range items {
		b = write(b, item)
	}
	return b
}

// number writes one behind b. pack copies what it writes behind: b is not handed to it, or a long program would be copied with each number.
func number[T ~int | ~int64](b []byte, n T) []byte { return append(b, pack.I(nil, int64(n))...) }

func text(b []byte, s string) []byte { return append(b, pack.S(nil, s)...) }

func constant(b []byte, v api.Value) []byte { return number(number(b, v.Kind), v.N) }

func table(b []byte, t Table) []byte {
	b = number(number(b, t.Key), t.Val)
	return list(list(b, t.Keys, number[int64]), t.Vals, number[int64])
}

func instr(b []byte, i Instr) []byte {
	for _, n := range [...]int{i.Op, i.A, i.B, i.C} {
		b = number(b, n)
	}
	return b
}
