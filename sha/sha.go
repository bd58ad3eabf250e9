// Package sha is layer 1: see shared/doc/01-sha.md.
package sha

import "pelican/api"

// Sum is the sum of bytes.
func Sum(b []byte) api.Id {
	// What Add answers to too many bytes is a state that may be, so that End would sum it.
	if len(b) > api.MaxHash {
		return api.Id{}
	}
	return End(Add(New(), b))
}

// New, Add and End make it part by part, May tells whether a state may be.
func New() api.Hash {
	return api.Hash{H: [8]uint32{
		0x6a09e667, 0xbb67ae85, 0x3c6ef372, 0xa54ff53a, 0x510e527f, 0x9b05688c, 0x1f83d9ab, 0x5be0cd19,
	}}
}

func May(h api.Hash) bool {
	return h.Len >= 0 && h.Len <= api.MaxHash && len(h.Rest) == h.Len%api.Block
}

func Add(h api.Hash, b []byte) api.Hash {
	if !May(h) || len(b) > api.MaxHash-h.Len {
		return api.Hash{}
	}
	all := join(h.Rest, b)
	whole := len(all) / api.Block * api.Block
	// A copy, so that the state does not keep all of the bytes for the sake of the last few.
	rest := join(all[whole:], nil)
	return api.Hash{H: roundedBy(h.H, all[:whole]), Rest: rest, Len: h.Len + len(b)}
}

func End(h api.Hash) api.Id {
	if !May(h) {
		return api.Id{}
	}
	return spelt(roundedBy(h.H, join(h.Rest, ending(h.Len))))
}

// join answers memory of its own: to append to a caller's bytes could write behind them.
func join(a, b []byte) []byte {
	all := make([]byte, 0, len(a)+len(b))
	all = append(all, a...)
	return append(all, b...)
}

// ending is what stands behind n bytes, so that all together are whole blocks.
func ending(n int) []byte {
	end := []byte{128}
	for (n+len(end)+8)%api.Block != 0 {
		end = append(end, 0)
	}
	bits := 8 * uint64(n)
	for i := range 8 {
		end = append(end, byte(bits>>(56-8*i)))
	}
	return end
}

// spelt is a register's bytes.
func spelt(r [8]uint32) api.Id {
	var id api.Id
	for i := range len(id) {
		id[i] = byte(r[i/4] >> (24 - 8*(i%4)))
	}
	return id
}
