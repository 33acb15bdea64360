package pack

import (
	"bytes"
	"hash/crc32"
	"strings"
	"testing"
)

func TestSum(t *testing.T) {
	if got := Sum([]byte("123456789")); got != 3421780262 {
		t.Errorf("P3.3: Sum(123456789): %d; want 3421780262", got)
	}
	if one, two := Sum(nil), Sum([]byte{}); one != 0 || two != 0 {
		t.Errorf("P3.3: Sum of nothing: %d and %d; want 0", one, two)
	}
	for i := range 256 {
		for k := range 256 {
			wantSum(t, []byte{byte(i), byte(k)})
		}
		wantSum(t, []byte{byte(i)})
		wantSum(t, bytes.Repeat([]byte{byte(i)}, i))
	}
	wantSum(t, []byte(strings.Repeat("publican ", 12345)))
}

// wantSum looks at a sum against the library's.
func wantSum(t *testing.T, b []byte) {
	t.Helper()
	was := bytes.Clone(b)
	if got, want := Sum(b), crc32.ChecksumIEEE(b); got != want {
		t.Fatalf("P3.3: Sum of %d bytes that begin with %v: %d; want %d", len(b), b[:min(len(b), 2)], got, want)
	}
	if !bytes.Equal(b, was) {
		t.Fatalf("R4: Sum changes what it is handed")
	}
}
