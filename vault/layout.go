package vault

import (
	"publican/api"
	"publican/pack"
	"publican/page"
)

// The kinds of frames.
const (
	pageKind = 80
	rootKind = 82
)

// root is what a commit ends with.
type root struct {
	commit uint64
	page   uint64 // the tree's root
	last   uint64 // the last page's number
}

func (r root) payload() []byte {
	return pack.U(pack.U(pack.U(nil, r.commit), r.page), r.last)
}

// readRoot reads a root's payload.
func readRoot(b []byte) (root, bool) {
	r := pack.Read(b)
	found := root{commit: r.U(), page: r.U(), last: r.U()}
	return found, !r.Bad() && r.Left() == 0
}

func pagePayload(n uint64, p page.Page) []byte {
	return append(pack.U(nil, n), page.Encode(p)...)
}

// readPage reads a page's payload.
func readPage(b []byte) (uint64, page.Page, bool) {
	r := pack.Read(b)
	n := r.U()
	if r.Bad() {
		return 0, page.Page{}, false
	}
	p, e := page.Decode(b[len(b)-r.Left():])
	return n, p, e == api.OK
}
