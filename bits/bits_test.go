package bits_test

import (
	"bytes"
	"math"
	"strings"
	"testing"

	"gaiter/bits"
)

// The tests hold the calls against texts of 0s and 1s, which no shifting can get wrong.

// text tells bits as 0s and 1s; it fails the test, if the bits may not be.
func text(t *testing.T, x bits.Bits) string {
	t.Helper()
	if x.N < 0 || len(x.B) != (x.N+7)/8 {
		t.Fatalf("%d bits in %d bytes", x.N, len(x.B))
	}
	all := bytesText(x.B)
	if strings.Contains(all[x.N:], "1") {
		t.Fatalf("a 1 behind the last bit: %d bits of %s", x.N, all)
	}
	return all[:x.N]
}

func bytesText(b []byte) string {
	var s strings.Builder
	for _, c := range b {
		for weight := 128; weight > 0; weight /= 2 {
			if int(c)&weight != 0 {
				s.WriteByte('1')
			} else {
				s.WriteByte('0')
			}
		}
	}
	return s.String()
}

// made tells the bits of a text.
func made(s string) bits.Bits {
	x := bits.Bits{B: make([]byte, (len(s)+7)/8), N: len(s)}
	for i, c := range s {
		if c == '1' {
			x.B[i/8] += byte(128 >> (i % 8))
		}
	}
	return x
}

// lowest tells the n lowest bits of v, the highest one first.
func lowest(v uint64, n int) string {
	s := ""
	for range n {
		s = string(rune('0'+v%2)) + s
		v /= 2
	}
	return s
}

// number tells the number of which s are the bits.
func number(s string) uint64 {
	var v uint64
	for _, c := range s {
		v = 2*v + uint64(c-'0')
	}
	return v
}

// patterns tells bits of a length: 0s, 1s, one 1 at each end, and mixed ones.
func patterns(n int) []string {
	mixed := strings.Repeat("1101000110010111100", n/19+1)
	list := []string{strings.Repeat("0", n), strings.Repeat("1", n), mixed[:n]}
	if n > 1 {
		list = append(list, "1"+strings.Repeat("0", n-1), strings.Repeat("0", n-1)+"1")
	}
	return list
}

func values() []uint64 {
	return []uint64{0, 1, 5, 0x80, 0x0123456789abcdef, 0xfedcba9876543210, 1 << 63, 1<<63 | 1, math.MaxUint64}
}

func outside() []int {
	return []int{-1, -8, -64, 65, 66, 72, 128, math.MinInt, math.MaxInt}
}

func TestPutTellsBytes(t *testing.T) {
	three := bits.Bits{B: []byte{0xa0}, N: 3}
	for i, c := range []struct {
		x    bits.Bits
		v    uint64
		n    int
		want bits.Bits
	}{
		{bits.Bits{}, 5, 3, three},
		{bits.Bits{}, 0, 0, bits.Bits{}},
		{bits.Bits{}, 0xff, 8, bits.Bits{B: []byte{0xff}, N: 8}},
		{bits.Bits{}, 0x0123456789abcdef, 64, bits.Bits{B: []byte{0x01, 0x23, 0x45, 0x67, 0x89, 0xab, 0xcd, 0xef}, N: 64}},
		{three, 0xffe1, 5, bits.Bits{B: []byte{0xa1}, N: 8}},
		{three, 0x21, 6, bits.Bits{B: []byte{0xb0, 0x80}, N: 9}},
		{bits.Bits{B: []byte{7}, N: 8}, 1, 1, bits.Bits{B: []byte{7, 0x80}, N: 9}},
		{bits.Bits{B: []byte{0xfe}, N: 7}, math.MaxUint64, 64, bits.Bits{B: []byte{255, 255, 255, 255, 255, 255, 255, 255, 0xfe}, N: 71}},
	} {
		got := bits.Put(c.x, c.v, c.n)
		if got.N != c.want.N || !bytes.Equal(got.B, c.want.B) {
			t.Errorf("%d: %v", i, got)
		}
	}
}

func TestPutIsBehind(t *testing.T) {
	for length := range 27 {
		for _, s := range patterns(length) {
			for n := range 65 {
				for _, v := range values() {
					want := s + lowest(v, n)
					if got := text(t, bits.Put(made(s), v, n)); got != want {
						t.Fatalf("%s, %x, %d: %s", s, v, n, got)
					}
				}
			}
		}
	}
}

func TestPutOfNoNumberOfBits(t *testing.T) {
	for _, length := range []int{0, 1, 7, 8, 9, 16, 70} {
		for _, s := range patterns(length) {
			for _, n := range outside() {
				if got := text(t, bits.Put(made(s), math.MaxUint64, n)); got != s {
					t.Errorf("%s, %d: %s", s, n, got)
				}
			}
		}
	}
}

func TestJoinTellsBytes(t *testing.T) {
	a, b := bits.Bits{B: []byte{0xa0}, N: 3}, bits.Bits{B: []byte{0xff, 0xc0}, N: 10}
	for i, c := range []struct{ x, y, want bits.Bits }{
		{bits.Bits{}, bits.Bits{}, bits.Bits{}},
		{a, bits.Bits{}, a},
		{bits.Bits{}, a, a},
		{a, b, bits.Bits{B: []byte{0xbf, 0xf8}, N: 13}},
		{b, a, bits.Bits{B: []byte{0xff, 0xe8}, N: 13}},
		{a, a, bits.Bits{B: []byte{0xb4}, N: 6}},
		{bits.Bits{B: []byte{7, 9}, N: 16}, bits.Bits{B: []byte{11}, N: 8}, bits.Bits{B: []byte{7, 9, 11}, N: 24}},
	} {
		got := bits.Join(c.x, c.y)
		if got.N != c.want.N || !bytes.Equal(got.B, c.want.B) {
			t.Errorf("%d: %v", i, got)
		}
	}
}

func TestJoinIsBehind(t *testing.T) {
	lengths := []int{0, 1, 2, 3, 4, 5, 6, 7, 8, 9, 15, 16, 17, 23, 24, 63, 64, 65, 200}
	for _, first := range lengths {
		for _, second := range lengths {
			for _, s := range patterns(first) {
				for _, u := range patterns(second) {
					if got := text(t, bits.Join(made(s), made(u))); got != s+u {
						t.Fatalf("%s, %s: %s", s, u, got)
					}
				}
			}
		}
	}
}

func TestTakeTellsNumbers(t *testing.T) {
	b := []byte{0xa5, 0x0f, 0x81, 0x00, 0xff, 0x3c, 0x01, 0x80, 0x7e, 0xd2}
	all := bytesText(b)
	for size := range len(b) + 1 {
		for at := range 8*size + 1 {
			for n := range 65 {
				var want uint64
				ok := at+n <= 8*size
				if ok {
					want = number(all[at : at+n])
				}
				if got, is := bits.Take(b[:size], at, n); got != want || is != ok {
					t.Fatalf("%d bytes, from %d, %d: %x, %v", size, at, n, got, is)
				}
			}
		}
	}
}

func TestTakeAcrossNineBytes(t *testing.T) {
	b := []byte{0x01, 0x23, 0x45, 0x67, 0x89, 0xab, 0xcd, 0xef, 0x12}
	if v, ok := bits.Take(b, 4, 64); v != 0x123456789abcdef1 || !ok {
		t.Errorf("%x, %v", v, ok)
	}
	ones := bytes.Repeat([]byte{255}, 9)
	for at := range 9 {
		if v, ok := bits.Take(ones, at, 64); v != math.MaxUint64 || !ok {
			t.Errorf("from %d: %x, %v", at, v, ok)
		}
	}
}

func TestTakeOfBitsThatAreNotThere(t *testing.T) {
	b := bytes.Repeat([]byte{255}, 20)
	type place struct{ at, n int }
	for _, n := range outside() {
		for _, at := range []int{0, 1, 80, 159, 160, math.MaxInt} {
			if v, ok := bits.Take(b, at, n); v != 0 || ok {
				t.Errorf("from %d, %d: %x, %v", at, n, v, ok)
			}
		}
	}
	for _, p := range []place{
		{-1, 0}, {-1, 1}, {-1, 64}, {-8, 8}, {-64, 64}, {math.MinInt, 0}, {math.MinInt, 64},
		{160, 1}, {161, 0}, {159, 2}, {97, 64}, {160, 64}, {1000, 0},
		{math.MaxInt, 0}, {math.MaxInt, 1}, {math.MaxInt, 8}, {math.MaxInt, 64}, {math.MaxInt - 1, 2}, {math.MaxInt - 63, 64},
	} {
		if v, ok := bits.Take(b, p.at, p.n); v != 0 || ok {
			t.Errorf("from %d, %d: %x, %v", p.at, p.n, v, ok)
		}
	}
	for _, none := range [][]byte{nil, {}} {
		if v, ok := bits.Take(none, 0, 0); v != 0 || !ok {
			t.Errorf("of none, 0: %x, %v", v, ok)
		}
		if v, ok := bits.Take(none, 0, 1); v != 0 || ok {
			t.Errorf("of none, 1: %x, %v", v, ok)
		}
	}
}

// The room behind a slice's end isn't handed in: its bits aren't there.
func TestTakeStaysWithinTheSlice(t *testing.T) {
	b := bytes.Repeat([]byte{255}, 20)[:2]
	if v, ok := bits.Take(b, 9, 8); v != 0 || ok {
		t.Errorf("%x, %v", v, ok)
	}
	if v, ok := bits.Take(b, 17, 0); v != 0 || ok {
		t.Errorf("%x, %v", v, ok)
	}
}

// roomy tells bits whose slice has room behind its end, filled with 0x5a, and that whole memory.
func roomy(s string) (bits.Bits, []byte) {
	x := made(s)
	memory := bytes.Repeat([]byte{0x5a}, len(x.B)+32)
	copy(memory, x.B)
	return bits.Bits{B: memory[:len(x.B)], N: x.N}, memory
}

// overwrite turns every bit of a slice's memory, that behind its end, too.
func overwrite(b []byte) {
	b = b[:cap(b)]
	for i := range b {
		b[i] = ^b[i]
	}
}

// holdApart fails the test, if a call changes what it is handed, or what it tells shares memory with that, or with what it told ahead.
func holdApart(t *testing.T, want string, call func() bits.Bits, memories ...[]byte) {
	t.Helper()
	var ahead [][]byte
	for _, m := range memories {
		ahead = append(ahead, bytes.Clone(m))
	}
	same := func(when string) {
		t.Helper()
		for i, m := range memories {
			if !bytes.Equal(m, ahead[i]) {
				t.Fatalf("what is handed in is changed %s: %x, was %x", when, m, ahead[i])
			}
		}
	}
	first := call()
	same("by the call")
	second := call()
	overwrite(first.B)
	same("with what is told")
	if got := text(t, second); got != want {
		t.Fatalf("two answers share memory: %s, want %s", got, want)
	}
	for _, m := range memories {
		overwrite(m)
	}
	if got := text(t, second); got != want {
		t.Fatalf("what is told changes with what is handed in: %s, want %s", got, want)
	}
}

func TestPutIsNewMemory(t *testing.T) {
	for _, length := range []int{0, 1, 3, 7, 8, 9, 16, 21} {
		for _, s := range patterns(length) {
			for n := -1; n <= 65; n++ {
				x, memory := roomy(s)
				want := s
				if n >= 0 && n <= 64 {
					want += lowest(math.MaxUint64, n)
				}
				holdApart(t, want, func() bits.Bits { return bits.Put(x, math.MaxUint64, n) }, memory)
			}
		}
	}
}

func TestJoinIsNewMemory(t *testing.T) {
	lengths := []int{0, 1, 3, 7, 8, 9, 16, 21}
	for _, first := range lengths {
		for _, second := range lengths {
			for _, s := range patterns(first) {
				for _, u := range patterns(second) {
					x, before := roomy(s)
					y, behind := roomy(u)
					holdApart(t, s+u, func() bits.Bits { return bits.Join(x, y) }, before, behind)
				}
			}
		}
	}
}

func TestJoinOfSharedMemory(t *testing.T) {
	for length := range 26 {
		for _, s := range patterns(length) {
			x, memory := roomy(s)
			holdApart(t, s+s, func() bits.Bits { return bits.Join(x, x) }, memory)
		}
	}
	// y's bytes stand just where an append behind x's would write.
	memory := []byte{0xe0, 0xa5, 0xc3}
	x, y := bits.Bits{B: memory[:1], N: 3}, bits.Bits{B: memory[1:], N: 16}
	holdApart(t, "111"+bytesText([]byte{0xa5, 0xc3}), func() bits.Bits { return bits.Join(x, y) }, memory)
}

func TestTakeChangesNothing(t *testing.T) {
	x, memory := roomy(strings.Repeat("1101000110010111", 5))
	ahead := bytes.Clone(memory)
	for at := -1; at <= x.N+1; at++ {
		for n := -1; n <= 65; n++ {
			bits.Take(x.B, at, n)
			// Held against it behind each call: two changes may undo each other.
			if !bytes.Equal(memory, ahead) {
				t.Fatalf("from %d, %d: %x, was %x", at, n, memory, ahead)
			}
		}
	}
}

func TestWhatWasPutIsTaken(t *testing.T) {
	for length := range 27 {
		for _, s := range patterns(length) {
			for n := range 65 {
				for _, v := range values() {
					want := v
					if n < 64 {
						want = v % (1 << n)
					}
					x := bits.Put(made(s), v, n)
					if got, ok := bits.Take(x.B, length, n); got != want || !ok {
						t.Fatalf("behind %s, %x of %d: %x, %v", s, v, n, got, ok)
					}
					y := bits.Put(x, math.MaxUint64, 11)
					if got, ok := bits.Take(y.B, length, n); got != want || !ok {
						t.Fatalf("between %s and 1s, %x of %d: %x, %v", s, v, n, got, ok)
					}
				}
			}
		}
	}
}

func TestMuchThatWasPutIsTaken(t *testing.T) {
	var x bits.Bits
	for n := range 65 {
		x = bits.Put(x, 0x9e3779b97f4a7c15*uint64(n), n)
	}
	if x.N != 64*65/2 {
		t.Fatal(x.N)
	}
	at := 0
	for n := range 65 {
		want := number(lowest(0x9e3779b97f4a7c15*uint64(n), n))
		if got, ok := bits.Take(x.B, at, n); got != want || !ok {
			t.Errorf("the %d bits from %d on: %x, %v; want %x", n, at, got, ok, want)
		}
		at += n
	}
}
