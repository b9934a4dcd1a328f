// Package bits is layer 1: see shared/doc/01-bits.md.
package bits

// Bits are N bits.
type Bits struct {
	B []byte
	N int
}

// Put puts the n lowest bits of v behind x: P1.1.
func Put(x Bits, v uint64, n int) Bits {
	if n < 0 || n > 64 {
		n = 0
	}
	return Join(x, lowest(v, n))
}

// Join puts y behind x: P1.1.
func Join(x, y Bits) Bits {
	n := x.N + y.N
	b := make([]byte, size(n))
	copy(b, x.B)
	at, shift := x.N/8, x.N%8
	for i, c := range y.B {
		b[at+i] |= c >> shift
		// Where there is no byte more, what would go there are y's 0s behind its last bit.
		if at+i+1 < len(b) {
			b[at+i+1] = c << (8 - shift)
		}
	}
	return Bits{B: b, N: n}
}

// Take tells the number of n bits: P1.1.
func Take(b []byte, at, n int) (uint64, bool) {
	// at and n aren't added up here: together they may be beyond the greatest int.
	if n < 0 || n > 64 || at < 0 || at > 8*len(b)-n {
		return 0, false
	}
	var v uint64
	for i := at; i < at+n; i++ {
		v = v<<1 | uint64(b[i/8]>>(7-i%8)&1)
	}
	return v, true
}

// size tells how many bytes n bits need.
func size(n int) int { return (n + 7) / 8 }

// lowest tells the n lowest bits of v, n being 0 to 64.
func lowest(v uint64, n int) Bits {
	v <<= 64 - n
	b := make([]byte, size(n))
	for i := range b {
		b[i] = byte(v >> (56 - 8*i))
	}
	return Bits{B: b, N: n}
}
