package page

import (
	"fmt"
	"maps"
	"math"
	"math/rand"
	"slices"
	"strings"
	"testing"

	"publican/api"
)

// leafOf makes a leaf of keys and values, by turns.
func leafOf(l ...string) Page {
	p := Page{Leaf: true}
	for i := 0; i < len(l); i += 2 {
		p.Keys, p.Vals = append(p.Keys, l[i]), append(p.Vals, l[i+1])
	}
	return p
}

// branchOf makes a branch of keys, with the kids 1, 2 and so on.
func branchOf(keys ...string) Page {
	p := Page{Keys: keys, Kids: []uint64{1}}
	for i := range keys {
		p.Kids = append(p.Kids, uint64(i+2))
	}
	return p
}

// same tells whether two pages are one: nil and an empty list are.
func same(p, q Page) bool {
	return p.Leaf == q.Leaf && slices.Equal(p.Keys, q.Keys) && slices.Equal(p.Vals, q.Vals) && slices.Equal(p.Kids, q.Kids)
}

// random makes a good page, with at most most keys: some short, some of the greatest length, with any bytes.
func random(r *rand.Rand, leaf bool, most int) Page {
	items := map[string]string{}
	for range r.Intn(most + 1) {
		items[randomText(r, 1, api.MaxKey)] = randomText(r, 0, api.MaxVal)
	}
	p := Page{Leaf: leaf, Keys: slices.Sorted(maps.Keys(items))}
	if leaf {
		for _, key := range p.Keys {
			p.Vals = append(p.Vals, items[key])
		}
		return p
	}
	for range len(p.Keys) + 1 {
		p.Kids = append(p.Kids, r.Uint64()>>r.Intn(64)|1)
	}
	return p
}

func randomText(r *rand.Rand, least, most int) string {
	n := least + r.Intn(most-least+1)
	switch r.Intn(3) {
	case 0:
		n = least + r.Intn(3)
	case 1:
		n = most - r.Intn(3)
	}
	b := make([]byte, n)
	for i := range b {
		b[i] = "ab\x00\x80\xff"[r.Intn(5)]
	}
	return string(b)
}

// good are pages that may be, the edges among them.
func good() []Page {
	key, val := strings.Repeat("k", api.MaxKey), strings.Repeat("v", api.MaxVal)
	many := Page{Leaf: true}
	wide := Page{Kids: []uint64{1}}
	for i := range 300 {
		name := fmt.Sprintf("%04d", i)
		many.Keys, many.Vals = append(many.Keys, name), append(many.Vals, name+val[4:])
		wide.Keys, wide.Kids = append(wide.Keys, name), append(wide.Kids, uint64(i+1)<<i%64|1)
	}
	return []Page{
		leafOf(), {Leaf: true, Keys: []string{}, Vals: []string{}, Kids: []uint64{}},
		leafOf("a", "1"), leafOf("a", ""), leafOf("\x00", "\x00"), leafOf(key, val), leafOf("a", val, key, ""),
		leafOf("a", "", "a\x00", "", "aa", "", "b", ""), leafOf("\x7f", "x", "\x80", "x", "\xff", "x", "\xff\x00", "x"),
		leafOf("A", "2", "Z", "2", "a", "1", "\u00e9", "3"), many,
		branchOf(), {Keys: []string{}, Vals: []string{}, Kids: []uint64{7}}, branchOf("a"), branchOf("a", "b", "c"), branchOf(key), wide,
		{Kids: []uint64{math.MaxUint64}}, {Keys: []string{"a"}, Kids: []uint64{5, 5}}, {Keys: []string{"a", "b"}, Kids: []uint64{math.MaxUint64, 1, 1 << 63}},
	}
}

// wrong are pages that may not be, told by what is wrong with them.
func wrong() map[string]Page {
	key, val := strings.Repeat("k", api.MaxKey+1), strings.Repeat("v", api.MaxVal+1)
	return map[string]Page{
		"a leaf with an empty key":            leafOf("", "1"),
		"a leaf with an empty key ahead":      leafOf("", "1", "a", "2"),
		"a leaf with a key too long":          leafOf(key, ""),
		"a leaf with a last key too long":     leafOf("a", "1", key, ""),
		"a leaf with a value too long":        leafOf("a", val),
		"a leaf with a last value too long":   leafOf("a", "", "b", val),
		"a leaf with a key twice":             leafOf("a", "1", "a", "1"),
		"a leaf with keys that fall":          leafOf("b", "1", "a", "2"),
		"a leaf whose last keys fall":         leafOf("a", "1", "c", "2", "b", "3"),
		"a leaf whose keys fall by a byte":    leafOf("aa", "1", "a", "2"),
		"a leaf whose keys fall as bytes":     leafOf("\x80", "1", "\x7f", "2"),
		"a leaf with too few values":          {Leaf: true, Keys: []string{"a", "b"}, Vals: []string{"1"}},
		"a leaf with no value":                {Leaf: true, Keys: []string{"a"}},
		"a leaf with too many values":         {Leaf: true, Keys: []string{"a"}, Vals: []string{"1", "2"}},
		"a leaf with values and no key":       {Leaf: true, Vals: []string{"1"}},
		"a leaf with a kid":                   {Leaf: true, Kids: []uint64{1}},
		"a leaf with kids as of a branch":     {Leaf: true, Keys: []string{"a"}, Vals: []string{"1"}, Kids: []uint64{1, 2}},
		"the zero Page":                       {},
		"a branch with the kid 0 alone":       {Kids: []uint64{0}},
		"a branch with the kid 0 ahead":       {Keys: []string{"a"}, Kids: []uint64{0, 1}},
		"a branch with the kid 0 at the end":  {Keys: []string{"a"}, Kids: []uint64{1, 0}},
		"a branch with as many kids as keys":  {Keys: []string{"a"}, Kids: []uint64{1}},
		"a branch with keys and no kid":       {Keys: []string{"a", "b", "c", "d"}},
		"a branch with two kids and no key":   {Kids: []uint64{1, 2}},
		"a branch with a kid too many":        {Keys: []string{"a"}, Kids: []uint64{1, 2, 3}},
		"a branch with a value":               {Keys: []string{"a"}, Vals: []string{""}, Kids: []uint64{1, 2}},
		"a branch with an empty key":          branchOf(""),
		"a branch with a key too long":        branchOf("a", key),
		"a branch with a key twice":           branchOf("a", "a"),
		"a branch with keys that fall":        branchOf("a", "c", "b"),
		"a branch of a leaf's keys":           {Keys: []string{"a", "b"}, Vals: []string{"1", "2"}},
		"a leaf with keys that fall, no vals": {Leaf: true, Keys: []string{"d", "c", "b", "a", "a"}},
	}
}

func TestGood(t *testing.T) {
	for i, p := range good() {
		if !Good(p) {
			t.Errorf("P6.1: Good of number %d: false", i)
		}
	}
	for told, p := range wrong() {
		if Good(p) {
			t.Errorf("P6.1: Good of %s: true", told)
		}
	}
	r := rand.New(rand.NewSource(1))
	for range 2000 {
		if p := random(r, r.Intn(2) == 0, 8); !Good(p) {
			t.Fatalf("P6.1: Good of %#v: false", p)
		}
	}
}

// wantFound looks at Find and Kid, against a count of the keys below, one by one.
func wantFound(t *testing.T, p Page, key string) {
	t.Helper()
	below, there := 0, 0
	for _, k := range p.Keys {
		if k < key {
			below++
		}
		if k == key {
			there = 1
		}
	}
	if p.Leaf {
		if at, found := p.Find(key); at != below || found != (there == 1) {
			t.Fatalf("P6.2: Find(%q) in %q: %d, %v; want %d, %v", key, p.Keys, at, found, below, there == 1)
		}
		if kid := p.Kid(key); kid != 0 {
			t.Fatalf("P6.2: Kid(%q) of a leaf: %d; want 0", key, kid)
		}
		return
	}
	if kid := p.Kid(key); kid != below+there {
		t.Fatalf("P6.2: Kid(%q) in %q: %d; want %d", key, p.Keys, kid, below+there)
	}
	if at, found := p.Find(key); at != 0 || found {
		t.Fatalf("R2: Find(%q) of a branch: %d, %v; want 0, false", key, at, found)
	}
}

// asked are keys to ask a page for: its own, those just beside them, and those that no page can have.
func asked(p Page) []string {
	l := []string{"", "\x00", "m", "\xff", strings.Repeat("\xff", api.MaxKey+1), strings.Repeat("k", 5000)}
	for _, key := range p.Keys {
		l = append(l, key, key+"\x00", key[:len(key)-1], key[:len(key)-1]+string(key[len(key)-1]-1))
	}
	return l
}

func TestFindAndKid(t *testing.T) {
	for _, p := range good() {
		for _, key := range asked(p) {
			wantFound(t, p, key)
		}
	}
	r := rand.New(rand.NewSource(2))
	for range 1000 {
		p := random(r, r.Intn(2) == 0, 12)
		for _, key := range asked(p) {
			wantFound(t, p, key)
		}
	}
}

func TestKidExamples(t *testing.T) {
	p := branchOf("b", "d")
	for key, want := range map[string]int{"": 0, "a": 0, "az": 0, "b": 1, "b\x00": 1, "c": 1, "d": 2, "e": 2} {
		if got := p.Kid(key); got != want {
			t.Errorf("P6.2: Kid(%q): %d; want %d", key, got, want)
		}
	}
	if got := branchOf().Kid("x"); got != 0 {
		t.Errorf("P6.2: Kid of a branch of one kid: %d; want 0", got)
	}
}

// itemsOf are a leaf's items as a map has them.
func itemsOf(p Page) map[string]string {
	items := map[string]string{}
	for i, key := range p.Keys {
		items[key] = p.Vals[i]
	}
	return items
}

// ofItems makes a leaf of what a map has.
func ofItems(items map[string]string) Page {
	p := leafOf()
	for _, key := range slices.Sorted(maps.Keys(items)) {
		p.Keys, p.Vals = append(p.Keys, key), append(p.Vals, items[key])
	}
	return p
}

// wantChanged looks at Put and Drop of a leaf, against a map.
func wantChanged(t *testing.T, p Page, key, val string) {
	t.Helper()
	was := p.copied()
	with, without := itemsOf(p), itemsOf(p)
	with[key] = val
	delete(without, key)
	if got, want := p.Put(key, val), ofItems(with); !same(got, want) {
		t.Fatalf("P6.2: Put(%#v, %#v) into %#v: %#v; want %#v", key, val, p, got, want)
	}
	if got, want := p.Drop(key), ofItems(without); !same(got, want) {
		t.Fatalf("P6.2: Drop(%#v) of %#v: %#v; want %#v", key, p, got, want)
	}
	if !same(p, was) {
		t.Fatalf("P6.2: Put or Drop(%#v) changes p: %#v; want %#v", key, p, was)
	}
}

func TestPutAndDrop(t *testing.T) {
	for _, p := range good() {
		if !p.Leaf {
			continue
		}
		for _, key := range asked(p) {
			wantChanged(t, p, key, "")
			wantChanged(t, p, key, "new\x00")
		}
	}
	r := rand.New(rand.NewSource(3))
	for range 500 {
		p := random(r, true, 10)
		for _, key := range asked(p) {
			wantChanged(t, p, key, randomText(r, 0, api.MaxVal))
		}
	}
}

func TestPutIsNotBoundByLimits(t *testing.T) {
	key, val := strings.Repeat("k", api.MaxKey+1), strings.Repeat("v", api.MaxVal+1)
	if got := leafOf("a", "1").Put(key, val); !same(got, leafOf("a", "1", key, val)) || Good(got) {
		t.Errorf("P6.2: Put of a key and a value too long: %#v", got)
	}
	if got := leafOf("a", "1").Put("", ""); !same(got, leafOf("", "", "a", "1")) || Good(got) {
		t.Errorf("P6.2: Put of an empty key: %#v", got)
	}
}

func TestBranchStays(t *testing.T) {
	for _, p := range good() {
		if p.Leaf {
			continue
		}
		for _, key := range asked(p) {
			if got := p.Put(key, "v"); !same(got, p) {
				t.Fatalf("P6.2: Put(%#v) of a branch: %#v; want %#v", key, got, p)
			}
			if got := p.Drop(key); !same(got, p) {
				t.Fatalf("P6.2: Drop(%#v) of a branch: %#v; want %#v", key, got, p)
			}
		}
	}
}

// TestLives puts into a leaf and drops from it, by turns, beside a map.
func TestLives(t *testing.T) {
	r := rand.New(rand.NewSource(4))
	for range 20 {
		p, items := leafOf(), map[string]string{}
		for step := range 400 {
			key, val := fmt.Sprint(r.Intn(30)), fmt.Sprint(step)
			if r.Intn(5) < 3 {
				p, items[key] = p.Put(key, val), val
			} else {
				p = p.Drop(key)
				delete(items, key)
			}
			if want := ofItems(items); !same(p, want) || !Good(p) {
				t.Fatalf("P6.2: behind %d steps: %#v; want %#v", step+1, p, want)
			}
		}
	}
}
