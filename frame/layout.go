package frame

import (
	"slices"

	"publican/api"
	"publican/pack"
)

const (
	headMark   = 72
	nextMark   = 67
	summed     = 16                           // bytes of a head that the sum covers
	inHead     = api.SectorBytes - summed - 4 // payload bytes that a head has, behind the sum
	inNext     = api.SectorBytes - 1          // payload bytes that each other sector has
	maxPayload = 1000
)

// content is what a frame's sectors say.
type content struct {
	kind    byte
	life    uint64
	number  uint32
	payload []byte
}

// Size tells how many sectors a payload wants.
func Size(bytes int) int {
	if bytes < 0 || bytes > maxPayload {
		return 0
	}
	behind := max(bytes-inHead, 0)
	return 1 + (behind+inNext-1)/inNext
}

// Fits tells whether frames have room.
func Fits(sectors int, bytes ...int) bool {
	all := 0
	for _, n := range bytes {
		size := Size(n)
		if size == 0 {
			return false
		}
		all += size
	}
	return all <= sectors
}

// encode makes a frame's sectors; the disk lays the noughts behind the last one.
func encode(f content) [][]byte {
	head := []byte{headMark, f.kind}
	head = appendLow(head, f.life, 8)
	head = appendLow(head, uint64(f.number), 4)
	head = appendLow(head, uint64(len(f.payload)), 2)
	sum := pack.Sum(slices.Concat(head, f.payload))
	head = appendLow(head, uint64(sum), 4)
	n := min(len(f.payload), inHead)
	sectors := [][]byte{append(head, f.payload[:n]...)}
	for part := range slices.Chunk(f.payload[n:], inNext) {
		sectors = append(sectors, slices.Concat([]byte{nextMark}, part))
	}
	return sectors
}

// told tells how many sectors the frame has that a head begins: 0, if it is no head.
func told(head []byte) int {
	if head[0] != headMark {
		return 0
	}
	return Size(payloadBytes(head))
}

// decode reads a frame's sectors, as many as its head tells of.
func decode(sectors [][]byte) (content, bool) {
	head := sectors[0]
	payload := slices.Clone(head[summed+4:])
	for _, s := range sectors[1:] {
		if s[0] != nextMark {
			return content{}, false
		}
		payload = append(payload, s[1:]...)
	}
	payload = payload[:payloadBytes(head)]
	if uint64(pack.Sum(slices.Concat(head[:summed], payload))) != low(head[summed:summed+4]) {
		return content{}, false
	}
	return content{kind: head[1], life: low(head[2:10]), number: uint32(low(head[10:14])), payload: payload}, true
}

func payloadBytes(head []byte) int { return int(low(head[14:summed])) }

// appendLow writes a number's n lowest bytes behind b, the lowest first.
func appendLow(b []byte, u uint64, n int) []byte {
	for range n {
		b = append(b, byte(u))
		u >>= 8
	}
	return b
}

// low reads what appendLow wrote.
func low(b []byte) uint64 {
	var u uint64
	for _, c := range slices.Backward(b) {
		u = u<<8 | uint64(c)
	}
	return u
}
