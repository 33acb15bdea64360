package vault

import (
	"fmt"
	"math/rand"
	"strings"
	"testing"

	"publican/api"
	"publican/page"
)

func TestCache(t *testing.T) {
	var c cache
	if _, ok := c.get(1); ok || c.size() != 0 {
		t.Errorf("T6: an empty cache has %d pages", c.size())
	}
	r := rand.New(rand.NewSource(1))
	var want []uint64 // by their last use
	for step := range 5000 {
		n := uint64(r.Intn(30))
		at := -1
		for i, m := range want {
			if m == n {
				at = i
			}
		}
		p, ok := c.get(n)
		if ok != (at >= 0) || ok && p.Keys[0] != fmt.Sprint("k", n) {
			t.Fatalf("T6: step %d: the page %d: %v, %v", step, n, p, ok)
		}
		if at >= 0 {
			want = append(want[:at], want[at+1:]...)
		}
		want = append(want, n)
		if !ok || r.Intn(3) == 0 {
			c.put(n, page.Page{Leaf: true}.Put(fmt.Sprint("k", n), ""))
		}
		if len(want) > api.MaxCached {
			want = want[1:]
		}
		if c.size() != len(want) {
			t.Fatalf("T6: step %d: %d pages; want %d", step, c.size(), len(want))
		}
	}
}

// Pages are read from the disk as they are needed: of a spoilt disk only those that are in memory can be told.
func TestLittleInMemory(t *testing.T) {
	v, d := made(t, 2048)
	for i := range 200 {
		commit(t, v, put(number(i), strings.Repeat("v", 200)))
		if v.Cached() > api.MaxCached {
			t.Fatalf("P8.3: %d cached", v.Cached())
		}
	}
	for i := range 200 {
		if _, e := v.Get(number(i)); e != api.OK || v.Cached() > api.MaxCached || v.Cached() == 0 {
			t.Fatalf("P8.3: Get: %d, %d cached", e, v.Cached())
		}
	}
	o := open(t, d)
	for _, x := range []*Vault{v, o} {
		if x.Pages() < 60 || x.Cached() > api.MaxCached {
			t.Errorf("P8.3: %d pages, %d cached", x.Pages(), x.Cached())
		}
	}
	for i := range d.Sectors() {
		if e := d.Write(i, nil); e != api.OK {
			t.Fatalf("Write: %d", e)
		}
	}
	for _, x := range []*Vault{v, o} {
		found := 0
		for i := range 200 {
			if val, e := x.Get(number(i)); e == api.OK && len(val) == 200 {
				found++
			} else if e != api.EFORM || val != "" {
				t.Errorf("P8.3: Get from a spoilt disk: %q, %d; want error 3", val, e)
			}
		}
		// A leaf has no more than four of them.
		if found > 4*api.MaxCached {
			t.Errorf("T6: %d keys of a spoilt disk are told", found)
		}
		if l, e := x.Range("", "", 1000); len(l) != 0 || e != api.EFORM {
			t.Errorf("P8.3: Range of a spoilt disk: %d items, %d; want error 3", len(l), e)
		}
		if e := x.Commit(put(number(199), "1")); e != api.EFORM {
			t.Errorf("P8.1: Commit on a spoilt disk: %d; want error 3", e)
		}
	}
}

// A page that another vault's move has written over is not told as this one's.
func TestWrittenOver(t *testing.T) {
	v, d := made(t, 64)
	commit(t, v, put("a", "1"))
	elder := open(t, d)
	for range 40 {
		commit(t, v, put("a", "2"))
	}
	if elder.cache = (cache{}); v.Moves() < 2 {
		t.Fatalf("%d moves", v.Moves())
	}
	if val, e := elder.Get("a"); val != "" || e != api.EFORM {
		t.Errorf("P8.3: Get of what was written over: %q, %d; want error 3", val, e)
	}
}
