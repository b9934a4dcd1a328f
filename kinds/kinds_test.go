package kinds_test

import (
	"bytes"
	"math"
	"math/big"
	"strings"
	"testing"

	"gaiter/api"
	"gaiter/bits"
	"gaiter/dod"
	"gaiter/kinds"
	"gaiter/xor"
)

// The tests hold the calls against bits written out as 0s and 1s, and, of many samples, against the codes of layers 5 and 7, of differences made of numbers that know no end: no going around can get these wrong.

// step is a sample behind those ahead of it, its bits written out, and the state behind it.
type step struct {
	x    api.Sample
	code string
	next kinds.State
}

// chain is samples of one kind, one behind the other.
type chain struct {
	name  string
	kind  int
	steps []step
}

const (
	least    = math.MinInt64
	greatest = math.MaxInt64
	all      = uint64(math.MaxUint64)
	half     = uint64(1) << 63
)

func sample(t int64, v uint64) api.Sample { return api.Sample{T: t, V: v} }

// window tells a state of layer 7 in short.
func window(prev uint64, lead, n int) xor.State {
	return xor.State{Prev: prev, Lead: lead, Len: n}
}

// byXor tells a state in short.
func byXor(n int, t, d int64, v uint64, lead, size int) kinds.State {
	return kinds.State{N: n, T: t, D: d, V: v, X: window(v, lead, size)}
}

// byInts tells a state in short.
func byInts(n int, t, d int64, v, e uint64) kinds.State {
	return kinds.State{N: n, T: t, D: d, V: v, E: e}
}

func zeros(n int) string { return strings.Repeat("0", n) }

func ones(n int) string { return strings.Repeat("1", n) }

func (s step) text() string { return strings.NewReplacer(" ", "", ",", "").Replace(s.code) }

func (s step) answer() answer { return answer{s.x, s.next, len(s.text()), nil} }

// first tells the bits of a first sample.
func first(t int64, v uint64) string { return binary(uint64(t), 64) + binary(v, 64) }

// chains tells what the chapter and the issue name, written out.
func chains() []chain { return append(xorChains(), intsChains()...) }

func xorChains() []chain {
	return []chain{
		{"windows", api.Xor, []step{
			{sample(100, 7), first(100, 7), byXor(1, 100, 0, 7, 0, 0)},
			{sample(101, 7), "10 0000001, 0", byXor(2, 101, 1, 7, 0, 0)},
			{sample(102, 7), "0, 0", byXor(3, 102, 1, 7, 0, 0)},
			{sample(104, 23), "10 0000001, 11 111011 000000 1", byXor(4, 104, 2, 23, 59, 1)},
			{sample(105, 7), "10 1111111, 10 1", byXor(5, 105, 1, 7, 59, 1)},
			{sample(106, 5), "0, 11 111110 000000 1", byXor(6, 106, 1, 5, 62, 1)},
			{sample(300, 5), "110 011000001, 0", byXor(7, 300, 194, 5, 62, 1)},
			{sample(301, 7), "110 100111111, 10 1", byXor(8, 301, 1, 7, 62, 1)},
			{sample(2349, 7), "1110 011111111111, 0", byXor(9, 2349, 2048, 7, 62, 1)},
			{sample(4397, half|7), "0, 11 000000 000000 1", byXor(10, 4397, 2048, half|7, 0, 1)},
			{sample(4398, 7), "1110 100000000001, 10 1", byXor(11, 4398, 1, 7, 0, 1)},
			{sample(6447, 6), "1111 " + zeros(52) + "100000000000, 11 111111 000000 1", byXor(12, 6447, 2049, 6, 63, 1)},
		}},
		{"the greatest step at once", api.Xor, []step{
			{sample(least, 0), first(least, 0), byXor(1, least, 0, 0, 0, 0)},
			{sample(greatest, all), "10 1111111, 11 000000 111111 " + ones(64), byXor(2, greatest, -1, all, 0, 64)},
		}},
		{"steps of 2^63-1, and of 2^63", api.Xor, []step{
			{sample(least, all), first(least, all), byXor(1, least, 0, all, 0, 0)},
			{sample(-1, all), "1111 0" + ones(63) + ", 0", byXor(2, -1, greatest, all, 0, 0)},
			{sample(greatest, all-1), "10 0000001, 11 111111 000000 1", byXor(3, greatest, least, all-1, 63, 1)},
		}},
		{"a step of 2^63, and less it", api.Xor, []step{
			{sample(least, 9), first(least, 9), byXor(1, least, 0, 9, 0, 0)},
			{sample(0, 9), "1111 1" + zeros(63) + ", 0", byXor(2, 0, least, 9, 0, 0)},
			{sample(1, 9), "1111 1" + zeros(62) + "1, 0", byXor(3, 1, 1, 9, 0, 0)},
			{sample(greatest, 9), "1111 0" + ones(61) + "01, 0", byXor(4, greatest, greatest-1, 9, 0, 0)},
		}},
		{"the greatest step but one", api.Xor, []step{
			{sample(least, 1), first(least, 1), byXor(1, least, 0, 1, 0, 0)},
			{sample(least+1, 1), "10 0000001, 0", byXor(2, least+1, 1, 1, 0, 0)},
			{sample(greatest, 1), "10 1111101, 0", byXor(3, greatest, -2, 1, 0, 0)},
		}},
		{"the last two times", api.Xor, []step{
			{sample(greatest-1, 3), first(greatest-1, 3), byXor(1, greatest-1, 0, 3, 0, 0)},
			{sample(greatest, 2), "10 0000001, 11 111111 000000 1", byXor(2, greatest, 1, 2, 63, 1)},
		}},
		{"around 0", api.Xor, []step{
			{sample(-1, 0), first(-1, 0), byXor(1, -1, 0, 0, 0, 0)},
			{sample(0, 0), "10 0000001, 0", byXor(2, 0, 1, 0, 0, 0)},
			{sample(1, 0), "0, 0", byXor(3, 1, 1, 0, 0, 0)},
		}},
	}
}

func intsChains() []chain {
	return []chain{
		{"steps", api.Ints, []step{
			{sample(10, 5), first(10, 5), byInts(1, 10, 0, 5, 0)},
			{sample(20, 8), "10 0001010, 10 0000011", byInts(2, 20, 10, 8, 3)},
			{sample(30, 11), "0, 0", byInts(3, 30, 10, 11, 3)},
			{sample(40, 11), "0, 10 1111101", byInts(4, 40, 10, 11, 0)},
			{sample(50, 11), "0, 0", byInts(5, 50, 10, 11, 0)},
			{sample(60, 4), "0, 10 1111001", byInts(6, 60, 10, 4, all-6)},
			{sample(70, all-2), "0, 0", byInts(7, 70, 10, all-2, all-6)},
			{sample(80, 2), "0, 10 0001100", byInts(8, 80, 10, 2, 5)},
			{sample(81, half+2), "10 1110111, 1111 0" + ones(60) + "011", byInts(9, 81, 1, half+2, half)},
			{sample(82, 2), "0, 0", byInts(10, 82, 1, 2, half)},
			{sample(83, all), "0, 1111 0" + ones(61) + "01", byInts(11, 83, 1, all, all-2)},
			{sample(84, all), "0, 10 0000011", byInts(12, 84, 1, all, 0)},
			{sample(85, 255), "0, 1110 000100000000", byInts(13, 85, 1, 255, 256)},
		}},
		{"from 0 to the greatest value, and back", api.Ints, []step{
			{sample(0, 0), first(0, 0), byInts(1, 0, 0, 0, 0)},
			{sample(1, all), "10 0000001, 10 1111111", byInts(2, 1, 1, all, all)},
			{sample(2, 0), "0, 10 0000010", byInts(3, 2, 1, 0, 1)},
			{sample(3, 1), "0, 0", byInts(4, 3, 1, 1, 1)},
		}},
		{"the greatest step at once", api.Ints, []step{
			{sample(least, all), first(least, all), byInts(1, least, 0, all, 0)},
			{sample(greatest, half-1), "10 1111111, 1111 1" + zeros(63), byInts(2, greatest, -1, half-1, half)},
		}},
		{"steps of 2^63-1, and of 2^63", api.Ints, []step{
			{sample(least, 0), first(least, 0), byInts(1, least, 0, 0, 0)},
			{sample(-1, half-1), "1111 0" + ones(63) + ", 1111 0" + ones(63), byInts(2, -1, greatest, half-1, half-1)},
			{sample(greatest, all), "10 0000001, 10 0000001", byInts(3, greatest, least, all, half)},
		}},
		{"a step of 2^63, and less it", api.Ints, []step{
			{sample(least, 0), first(least, 0), byInts(1, least, 0, 0, 0)},
			{sample(0, half), "1111 1" + zeros(63) + ", 1111 1" + zeros(63), byInts(2, 0, least, half, half)},
			{sample(1, half+1), "1111 1" + zeros(62) + "1, 1111 1" + zeros(62) + "1", byInts(3, 1, 1, half+1, 1)},
			{sample(greatest, half), "1111 0" + ones(61) + "01, 10 1111110", byInts(4, greatest, greatest-1, half, all)},
		}},
		{"the last two times", api.Ints, []step{
			{sample(greatest-1, 3), first(greatest-1, 3), byInts(1, greatest-1, 0, 3, 0)},
			{sample(greatest, 3), "10 0000001, 0", byInts(2, greatest, 1, 3, 0)},
		}},
	}
}

// binary tells the n lowest bits of a number, the highest one first.
func binary(v uint64, n int) string {
	s := make([]byte, n)
	for i := range s {
		s[n-1-i] = byte('0' + v%2)
		v /= 2
	}
	return string(s)
}

func bytesText(b []byte) string {
	var s strings.Builder
	for _, c := range b {
		s.WriteString(binary(uint64(c), 8))
	}
	return s.String()
}

// text tells bits as 0s and 1s; it fails the test, if the bits may not be.
func text(t *testing.T, x bits.Bits) string {
	t.Helper()
	if x.N < 0 || len(x.B) != (x.N+7)/8 {
		t.Fatalf("%d bits in %d bytes", x.N, len(x.B))
	}
	s := bytesText(x.B)
	if strings.Contains(s[x.N:], "1") {
		t.Fatalf("a 1 behind the last bit: %d bits of %s", x.N, s)
	}
	return s[:x.N]
}

// made tells the bytes of a text, the bits of its last byte behind its end being 0.
func made(s string) []byte {
	b := make([]byte, (len(s)+7)/8)
	for i, c := range s {
		if c == '1' {
			b[i/8] += byte(128 >> (i % 8))
		}
	}
	return b
}

// whole fills a text up to a whole byte, since bytes end nowhere else: with 0s, or with 1s.
func whole(s, fill string) string {
	return s + strings.Repeat(fill, 7)[:(8-len(s)%8)%8]
}

// mixer tells numbers that hang on a start alone, the lowest bits as mixed as the highest ones.
func mixer(start uint64) func() uint64 {
	v := start
	return func() uint64 {
		v = v*6364136223846793005 + 1442695040888963407
		high := v
		v = v*6364136223846793005 + 1442695040888963407
		return high>>32<<32 | v>>32
	}
}

// mixed tells bytes that hang on a start alone.
func mixed(start uint64, size int) []byte {
	next := mixer(start)
	b := make([]byte, size)
	for i := range b {
		b[i] = byte(next())
	}
	return b
}

// pads tells n bits of several kinds, to stand ahead of a sample's bits, or behind them.
func pads(n int) []string {
	some := bytesText(mixed(uint64(n)+7, n/8+1))
	return []string{zeros(n), ones(n), some[:n]}
}

// less tells a-b-c modulo 2^64.
func less(a, b, c uint64) uint64 {
	x := new(big.Int).SetUint64(a)
	x.Sub(x, new(big.Int).SetUint64(b))
	x.Sub(x, new(big.Int).SetUint64(c))
	return x.Mod(x, new(big.Int).Lsh(big.NewInt(1), 64)).Uint64()
}

// more tells a+b+c modulo 2^64.
func more(a, b, c uint64) uint64 { return less(a, less(0, b, 0), less(0, c, 0)) }

// bitsOf tells the bits of a sample that may stand there, and the state behind it, by the chapter's words.
func bitsOf(t *testing.T, kind int, s kinds.State, x api.Sample) (string, kinds.State) {
	t.Helper()
	next := kinds.State{N: s.N + 1, T: x.T, V: x.V}
	if s.N == 0 {
		if kind == api.Xor {
			next.X = window(x.V, 0, 0)
		}
		return first(x.T, x.V), next
	}
	next.D = int64(less(uint64(x.T), uint64(s.T), 0))
	code := text(t, dod.Code(int64(less(uint64(x.T), uint64(s.T), uint64(s.D)))))
	if kind == api.Ints {
		next.E = less(x.V, s.V, 0)
		return code + text(t, dod.Code(int64(less(x.V, s.V, s.E)))), next
	}
	v, behind := xor.Code(s.X, x.V)
	next.X = behind
	return code + text(t, v), next
}

// answer is what Get tells.
type answer struct {
	x    api.Sample
	next kinds.State
	n    int
	err  error
}

// told tells what Get must answer, by the words of P8.1.
func told(t *testing.T, kind int, s kinds.State, b []byte, at int) answer {
	t.Helper()
	if kind != api.Xor && kind != api.Ints {
		return answer{err: api.ErrKind}
	}
	if s.N == 0 {
		if at < 0 || at > 8*len(b)-128 {
			return answer{err: api.ErrShort}
		}
		var x api.Sample
		for i, c := range bytesText(b)[at : at+128] {
			if i < 64 {
				x.T = x.T<<1 | int64(c-'0')
			} else {
				x.V = x.V<<1 | uint64(c-'0')
			}
		}
		_, next := bitsOf(t, kind, s, x)
		return answer{x, next, 128, nil}
	}
	v, n, err := dod.Get(b, at)
	if err != nil {
		return answer{err: err}
	}
	x := api.Sample{T: int64(more(uint64(s.T), uint64(s.D), uint64(v)))}
	var size int
	if kind == api.Xor {
		x.V, _, size, err = xor.Get(s.X, b, at+n)
	} else {
		v, size, err = dod.Get(b, at+n)
		x.V = more(s.V, s.E, uint64(v))
	}
	if err != nil {
		return answer{err: err}
	}
	if x.T <= s.T {
		return answer{err: api.ErrOrder}
	}
	_, next := bitsOf(t, kind, s, x)
	return answer{x, next, n + size, nil}
}

// hold fails the test, if Get answers otherwise than it must.
func hold(t *testing.T, kind int, s kinds.State, b []byte, at int, want answer) {
	t.Helper()
	x, next, n, err := kinds.Get(kind, s, b, at)
	if got := (answer{x, next, n, err}); got != want {
		t.Fatalf("Get(%d, %v, %s, %d): %v; want %v", kind, s, bytesText(b), at, got, want)
	}
}

func holdTold(t *testing.T, kind int, s kinds.State, b []byte, at int) {
	t.Helper()
	hold(t, kind, s, b, at, told(t, kind, s, b, at))
}

// holdPut fails the test, if Put answers otherwise than it must.
func holdPut(t *testing.T, kind int, s kinds.State, x api.Sample, code string, next kinds.State) {
	t.Helper()
	y, behind, err := kinds.Put(kind, s, x)
	if err != nil {
		t.Fatalf("Put(%d, %v, %v): %v", kind, s, x, err)
	}
	if is := text(t, y); is != code || behind != next {
		t.Fatalf("Put(%d, %v, %v): %s, %v; want %s, %v", kind, s, x, is, behind, code, next)
	}
}

// holdPutError fails the test, if Put tells anything but this error.
func holdPutError(t *testing.T, kind int, s kinds.State, x api.Sample, want api.Code) {
	t.Helper()
	y, next, err := kinds.Put(kind, s, x)
	if y.N != 0 || len(y.B) != 0 || next != (kinds.State{}) || err != error(want) {
		t.Fatalf("Put(%d, %v, %v): %v, %v, %v; want %v", kind, s, x, y, next, err, want)
	}
}

// each goes through the steps that are written out, each with the state ahead of it.
func each(do func(kind int, s kinds.State, p step)) {
	for _, c := range chains() {
		var s kinds.State
		for _, p := range c.steps {
			do(c.kind, s, p)
			s = p.next
		}
	}
}

func bothKinds() []int { return []int{api.Xor, api.Ints} }

// noKinds tells numbers that are no kind; some of them would be one, if bits of them were lost.
func noKinds() []int {
	list := []int{0, 3, 4, 5, 6, -1, -2, -3, 33, 34, 257, 258, 1<<16 + 1, 1<<16 + 2, 1<<32 + 1, 1<<32 + 2}
	return append(list, math.MinInt, math.MinInt+1, math.MinInt+2, math.MaxInt, math.MaxInt-1, math.MaxInt32, math.MinInt32)
}

// states tells states of a kind, the one of 0s ahead.
func states(kind int) []kinds.State {
	list := []kinds.State{{}}
	each(func(k int, _ kinds.State, p step) {
		if k == kind {
			list = append(list, p.next)
		}
	})
	for start := range uint64(4) {
		var s kinds.State
		for _, x := range walk(start, 9) {
			_, s, _ = kinds.Put(kind, s, x)
			list = append(list, s)
		}
	}
	return list
}

// ends tells numbers at the ends of what may be, and some between.
func ends() []uint64 {
	return []uint64{0, 1, 2, all, all - 1, half, half - 1, half + 1, 1 << 32, 0x0123456789abcdef, 0xfedcba9876543210}
}

// walk tells samples of rising times, at most n: steps of every size, and values that stay, go on alike, or jump.
func walk(start uint64, n int) []api.Sample {
	next := mixer(start)
	x := sample(int64(next()), next())
	if start%3 == 0 {
		x.T = least + int64(start)
	}
	list := []api.Sample{x}
	d, e := int64(1), uint64(0)
	for len(list) < n && x.T < greatest {
		switch next() % 6 {
		case 0, 1: // as before
		case 2:
			d = 1
		case 3:
			d += int64(next()%9) - 4
		default:
			d = int64(next() >> (next() % 64))
		}
		// Times that would go around, or back, stand at a place between here and the greatest one instead.
		if x.T+d <= x.T {
			d = int64(next()%(uint64(greatest)-uint64(x.T))) + 1
		}
		switch next() % 8 {
		case 0, 1, 2: // as before
		case 3:
			e = 0
		case 4:
			e += next()%9 - 4
		case 5:
			e = 1<<(next()%64) - 2*(x.V&(1<<(next()%64)))
		default:
			e = next() >> (next() % 64) << (next() % 20)
		}
		x = sample(x.T+d, x.V+e)
		list = append(list, x)
	}
	return list
}

func TestPutTellsTheSteps(t *testing.T) {
	each(func(kind int, s kinds.State, p step) {
		holdPut(t, kind, s, p.x, p.text(), p.next)
	})
}

func TestPutTellsBytes(t *testing.T) {
	for _, c := range []struct {
		kind int
		s    kinds.State
		x    api.Sample
		n    int
		want []byte
	}{
		{api.Xor, kinds.State{}, sample(1, 2), 128, []byte{0, 0, 0, 0, 0, 0, 0, 1, 0, 0, 0, 0, 0, 0, 0, 2}},
		{api.Ints, kinds.State{}, sample(least, all), 128, []byte{128, 0, 0, 0, 0, 0, 0, 0, 255, 255, 255, 255, 255, 255, 255, 255}},
		{api.Xor, kinds.State{}, sample(greatest, half), 128, []byte{127, 255, 255, 255, 255, 255, 255, 255, 128, 0, 0, 0, 0, 0, 0, 0}},
		{api.Ints, kinds.State{}, sample(0x0123456789abcdef, 0xfedcba9876543210), 128, []byte{1, 0x23, 0x45, 0x67, 0x89, 0xab, 0xcd, 0xef, 0xfe, 0xdc, 0xba, 0x98, 0x76, 0x54, 0x32, 0x10}},
		{api.Ints, kinds.State{}, sample(-2, 0), 128, []byte{255, 255, 255, 255, 255, 255, 255, 254, 0, 0, 0, 0, 0, 0, 0, 0}},
		{api.Xor, byXor(1, 100, 0, 7, 0, 0), sample(101, 7), 10, []byte{0x80, 0x80}},
		{api.Xor, byXor(1, 100, 0, 7, 0, 0), sample(101, 23), 24, []byte{0x80, 0xfd, 0x81}},
		{api.Ints, byInts(1, 100, 0, 7, 0), sample(101, 23), 18, []byte{0x80, 0xc4, 0}},
		{api.Ints, byInts(2, 100, 5, 7, 9), sample(105, 16), 2, []byte{0}},
	} {
		if got, _, err := kinds.Put(c.kind, c.s, c.x); got.N != c.n || !bytes.Equal(got.B, c.want) || err != nil {
			t.Errorf("%d, %v, %v: %d, %x, %v", c.kind, c.s, c.x, got.N, got.B, err)
		}
	}
}

// The first sample has 64 bits of each part, at both ends of what these may be, and no time is too low for it.
func TestPutOfTheFirst(t *testing.T) {
	for _, at := range ends() {
		for _, v := range ends() {
			x := sample(int64(at), v)
			holdPut(t, api.Xor, kinds.State{}, x, first(x.T, v), byXor(1, x.T, 0, v, 0, 0))
			holdPut(t, api.Ints, kinds.State{}, x, first(x.T, v), byInts(1, x.T, 0, v, 0))
		}
	}
}

// Behind the first, D and E are 0, there is no window, and Prev is its V: of all that the second may be.
func TestPutOfTheSecond(t *testing.T) {
	for _, from := range ends() {
		for _, to := range ends() {
			if int64(to) <= int64(from) {
				continue
			}
			for _, v := range ends() {
				for _, w := range ends() {
					for _, kind := range bothKinds() {
						_, s := bitsOf(t, kind, kinds.State{}, sample(int64(from), v))
						code, next := bitsOf(t, kind, s, sample(int64(to), w))
						holdPut(t, kind, s, sample(int64(to), w), code, next)
					}
				}
			}
		}
	}
}

// D and E of every size, less which every next step stands.
func TestPutOfTheThird(t *testing.T) {
	for start := range uint64(3000) {
		next := mixer(start)
		at := []int64{int64(next() >> (next() % 64)), int64(next()), int64(next() >> (next() % 64))}
		for i := range 3 {
			at[i] ^= -int64(next() % 2)
		}
		if at[0] >= at[1] || at[1] >= at[2] {
			continue
		}
		for _, kind := range bothKinds() {
			var s kinds.State
			for i := range 3 {
				x := sample(at[i], ends()[next()%uint64(len(ends()))])
				code, behind := bitsOf(t, kind, s, x)
				holdPut(t, kind, s, x, code, behind)
				s = behind
			}
		}
	}
}

func TestPutIsByTheWords(t *testing.T) {
	long, far := 0, 0
	for start := range uint64(600) {
		for _, kind := range bothKinds() {
			var s kinds.State
			for _, x := range walk(start, 80) {
				code, next := bitsOf(t, kind, s, x)
				holdPut(t, kind, s, x, code, next)
				s = next
				if next.D < 0 {
					far++
				}
			}
			if s.N > 40 {
				long++
			}
		}
	}
	if long < 100 || far < 100 {
		t.Errorf("only %d long ones, and %d steps beyond 2^63", long, far)
	}
}

// Fields that a kind has no use for stay 0, whatever the values are.
func TestStatesOfEachKind(t *testing.T) {
	for start := range uint64(60) {
		var x, n kinds.State
		for i, y := range walk(start, 60) {
			_, x, _ = kinds.Put(api.Xor, x, y)
			_, n, _ = kinds.Put(api.Ints, n, y)
			if x.E != 0 || x.X.Prev != y.V || n.X != (xor.State{}) {
				t.Fatalf("behind %v: %v, %v", y, x, n)
			}
			for _, s := range []kinds.State{x, n} {
				if s.N != i+1 || s.T != y.T || s.V != y.V {
					t.Fatalf("behind %v: %v", y, s)
				}
			}
		}
	}
}

// What is no kind is told ahead of all else: of times that rise, and of those that don't.
func TestPutOfNoKind(t *testing.T) {
	for _, kind := range noKinds() {
		for _, of := range bothKinds() {
			for _, s := range states(of) {
				for _, at := range []int64{s.T - 1, s.T, s.T + 1, least, greatest, 0} {
					holdPutError(t, kind, s, sample(at, s.V), api.ErrKind)
				}
			}
		}
	}
}

// A time that isn't above the last one's: at the last one, just below it, and so far below that the step goes around.
func TestPutOfTimesThatDoNotRise(t *testing.T) {
	held := 0
	for _, kind := range bothKinds() {
		for _, s := range states(kind)[1:] {
			times := []int64{s.T, least, least + 1, least + 2, s.T - 1, s.T - 2, s.T - 64, s.T - 1<<32, s.T / 2, s.T + s.D, s.T + least, 0, -1}
			for _, at := range times {
				for _, v := range []uint64{s.V, s.V + s.E, s.V + 1, 0, all} {
					if at <= s.T {
						holdPutError(t, kind, s, sample(at, v), api.ErrOrder)
						held++
						continue
					}
					code, next := bitsOf(t, kind, s, sample(at, v))
					holdPut(t, kind, s, sample(at, v), code, next)
				}
			}
		}
	}
	if held < 1000 {
		t.Errorf("only %d", held)
	}
}

// The first one may have any time, also that of a state of 0s, and one below it; the second one may not.
func TestOrderBeginsBehindTheFirst(t *testing.T) {
	for _, kind := range bothKinds() {
		for _, at := range []int64{0, -1, least, 1, greatest} {
			_, s, err := kinds.Put(kind, kinds.State{}, sample(at, 0))
			if err != nil || s.N != 1 {
				t.Fatal(kind, at, s, err)
			}
			holdPutError(t, kind, s, sample(at, 0), api.ErrOrder)
			holdPutError(t, kind, s, sample(least, 0), api.ErrOrder)
			if at < greatest {
				code, next := bitsOf(t, kind, s, sample(at+1, 0))
				holdPut(t, kind, s, sample(at+1, 0), code, next)
			}
		}
	}
}

// Every time behind one that is just above it, and all around the least and the greatest one.
func TestPutAroundTheLastTime(t *testing.T) {
	for _, kind := range bothKinds() {
		for _, last := range ends() {
			_, s := bitsOf(t, kind, kinds.State{}, sample(int64(last), 5))
			for off := range uint64(11) {
				for _, from := range []uint64{last, half, 0} {
					x := sample(int64(from+off-5), 6)
					if x.T <= s.T {
						holdPutError(t, kind, s, x, api.ErrOrder)
						continue
					}
					code, next := bitsOf(t, kind, s, x)
					holdPut(t, kind, s, x, code, next)
				}
			}
		}
	}
}

// At each place inside a byte, whatever stands around it.
func TestGetFromInsideOtherBits(t *testing.T) {
	each(func(kind int, s kinds.State, p step) {
		for ahead := range 25 {
			for _, before := range pads(ahead) {
				for _, behind := range append(pads(7), pads(80)...) {
					for _, fill := range []string{"0", "1"} {
						hold(t, kind, s, made(whole(before+p.text()+behind, fill)), ahead, p.answer())
					}
				}
			}
		}
	})
}

// A sample may end just where b does.
func TestGetOfTheLastBits(t *testing.T) {
	each(func(kind int, s kinds.State, p step) {
		for more := range 4 {
			ahead := (8-len(p.text())%8)%8 + 8*more
			for _, before := range pads(ahead) {
				hold(t, kind, s, made(before+p.text()), ahead, p.answer())
			}
		}
	})
}

func TestGetOfTheFirst(t *testing.T) {
	for _, at := range ends() {
		for _, v := range ends() {
			x := sample(int64(at), v)
			for ahead := range 9 {
				for _, before := range pads(ahead) {
					b := made(whole(before+first(x.T, v), "1"))
					hold(t, api.Xor, kinds.State{}, b, ahead, answer{x, byXor(1, x.T, 0, v, 0, 0), 128, nil})
					hold(t, api.Ints, kinds.State{}, b, ahead, answer{x, byInts(1, x.T, 0, v, 0), 128, nil})
				}
			}
		}
	}
}

// Samples one behind the other are gone through by how many bits each has, and by the state behind it.
func TestGetOneBehindTheOther(t *testing.T) {
	for _, c := range chains() {
		var b strings.Builder
		for _, p := range c.steps {
			b.WriteString(p.text())
		}
		var s kinds.State
		at := 0
		for _, p := range c.steps {
			x, next, n, err := kinds.Get(c.kind, s, made(b.String()), at)
			if x != p.x || next != p.next || n != len(p.text()) || err != nil {
				t.Fatalf("%d, %s: %v, %v, %d, %v; want %v", c.kind, c.name, x, next, n, err, p)
			}
			s, at = next, at+n
		}
		if at != b.Len() {
			t.Errorf("%d, %s: %d bits, want %d", c.kind, c.name, at, b.Len())
		}
	}
}

// lists tells slices of bytes: none, few, many, those of the steps, and mixed ones.
func lists() [][]byte {
	list := [][]byte{nil, {}, {0}, {255}, {0x80, 0}, {0x80, 0x80}, make([]byte, 16), bytes.Repeat([]byte{255}, 16), make([]byte, 40), mixed(5, 40)}
	each(func(_ int, _ kinds.State, p step) {
		list = append(list, made(p.text()))
	})
	return list
}

// What is no kind is told ahead of all else: of bits that are good, of none, and from where none are.
func TestGetOfNoKind(t *testing.T) {
	for _, kind := range noKinds() {
		each(func(_ int, s kinds.State, p step) {
			hold(t, kind, s, made(p.text()), 0, answer{err: api.ErrKind})
		})
		for _, b := range lists() {
			for _, s := range []kinds.State{{}, byXor(1, 100, 0, 7, 0, 0), byInts(3, greatest, 1, 7, 2)} {
				for _, at := range []int{0, -1, 1, 8 * len(b), math.MinInt, math.MaxInt} {
					hold(t, kind, s, b, at, answer{err: api.ErrKind})
				}
			}
		}
	}
}

// Of the first sample 127 bits, or fewer, are too few, wherever they end; 128 are just as many as it needs.
func TestGetOfTheFirstCutOff(t *testing.T) {
	for _, kind := range bothKinds() {
		for left := range 160 {
			for more := range 3 {
				ahead := (8-left%8)%8 + 8*more
				for _, before := range pads(ahead + left) {
					memory := append(made(before), bytes.Repeat([]byte{0x5a}, 20)...)
					b := memory[:(ahead+left)/8]
					if left < 128 {
						hold(t, kind, kinds.State{}, bytes.Clone(b), ahead, answer{err: api.ErrShort})
						// The room behind a slice's end isn't handed in: its bits aren't there.
						hold(t, kind, kinds.State{}, b, ahead, answer{err: api.ErrShort})
						continue
					}
					holdTold(t, kind, kinds.State{}, b, ahead)
					if _, _, n, err := kinds.Get(kind, kinds.State{}, b, ahead); n != 128 || err != nil {
						t.Fatal(kind, left, ahead, n, err)
					}
				}
			}
		}
	}
}

// Below 0, at the end and behind it, far, too.
func TestGetFromWhereNoBitIs(t *testing.T) {
	for _, kind := range bothKinds() {
		for _, s := range states(kind) {
			for _, b := range lists() {
				places := []int{math.MinInt, math.MinInt + 1, math.MinInt32, math.MaxInt32, math.MaxInt / 2, math.MaxInt / 8, math.MaxInt/8 + 1}
				for _, off := range []int{0, 1, 2, 7, 8, 9, 63, 64, 65, 127, 128, 129, 200} {
					places = append(places, -1-off, 8*len(b)+off, math.MaxInt-off, math.MinInt+off)
				}
				for _, at := range places {
					hold(t, kind, s, b, at, answer{err: api.ErrShort})
				}
			}
		}
	}
}

// Each sample at each of its bits: in T's code, at its end, and in V's.
func TestGetOfWhatIsCutOff(t *testing.T) {
	each(func(kind int, s kinds.State, p step) {
		for cut := range len(p.text()) {
			for more := range 3 {
				ahead := (8-cut%8)%8 + 8*more
				for _, before := range pads(ahead) {
					memory := made(whole(before+p.text(), "1") + ones(80))
					hold(t, kind, s, bytes.Clone(memory[:(ahead+cut)/8]), ahead, answer{err: api.ErrShort})
					hold(t, kind, s, memory[:(ahead+cut)/8], ahead, answer{err: api.ErrShort})
				}
			}
		}
	})
}

// part is how one of a sample's two parts is, and what Get must tell because of it.
type part struct {
	code string
	err  error
	ends bool // whether b must end behind it
}

// timeParts tells codes of T behind a state whose D is 0.
func timeParts() []part {
	return []part{
		{"10 0000001", nil, false},
		{"110 001000000", nil, false},
		{"1110 000100000000", nil, false},
		{"1111 0" + zeros(51) + "100000000000", nil, false},
		{"0", api.ErrOrder, false},
		{"10 1111111", api.ErrOrder, false},
		{"110 100000000", api.ErrOrder, false},
		{"1110 100000000000", api.ErrOrder, false},
		{"1111 1" + zeros(63), api.ErrOrder, false},
		{"10 0000000", api.ErrForm, false},
		{"110 000000001", api.ErrForm, false},
		{"110 111111111", api.ErrForm, false},
		{"1110 000011111111", api.ErrForm, false},
		{"1111 " + zeros(64), api.ErrForm, false},
		{"1111 " + ones(64), api.ErrForm, false},
		{"", api.ErrShort, true},
		{"1", api.ErrShort, true},
		{"10", api.ErrShort, true},
		{"10 000000", api.ErrShort, true},
		{"110 00000000", api.ErrShort, true},
		{"1111", api.ErrShort, true},
		{"1111 " + ones(63), api.ErrShort, true},
	}
}

// valueParts tells codes of V behind a first sample.
func valueParts(kind int) []part {
	if kind == api.Xor {
		return []part{
			{"0", nil, false},
			{"11 111011 000000 1", nil, false},
			{"10", api.ErrForm, false},
			{"11 111111 000001", api.ErrForm, false},
			{"11 111011 000000 0", api.ErrForm, false},
			{"11 111011 000001 10", api.ErrForm, false},
			{"11 000000 111111 0" + ones(63), api.ErrForm, false},
			{"", api.ErrShort, true},
			{"1", api.ErrShort, true},
			{"11", api.ErrShort, true},
			{"11 111111 00000", api.ErrShort, true},
			{"11 111011 000000", api.ErrShort, true},
			{"11 000000 111111 " + ones(63), api.ErrShort, true},
		}
	}
	return []part{
		{"0", nil, false},
		{"10 0000001", nil, false},
		{"10 1111111", nil, false},
		{"1111 1" + zeros(63), nil, false},
		{"10 0000000", api.ErrForm, false},
		{"110 000111111", api.ErrForm, false},
		{"1110 111100000000", api.ErrForm, false},
		{"1111 " + ones(64), api.ErrForm, false},
		{"", api.ErrShort, true},
		{"1", api.ErrShort, true},
		{"10 000000", api.ErrShort, true},
		{"1110 00001111111", api.ErrShort, true},
		{"1111 " + ones(63), api.ErrShort, true},
	}
}

// mustBe tells the one error of two parts by the words: the first of both, but ErrOrder behind them.
func mustBe(at, value part) error {
	switch {
	case at.err == api.ErrShort || at.err == api.ErrForm:
		return at.err
	case value.err != nil:
		return value.err
	}
	return at.err
}

// Each way in which T's code may be, with each in which V's may be.
func TestGetOfTwoPartsTellsTheFirstError(t *testing.T) {
	seen := map[error]int{}
	for _, kind := range bothKinds() {
		_, s := bitsOf(t, kind, kinds.State{}, sample(100, 7))
		for _, at := range timeParts() {
			for _, value := range valueParts(kind) {
				if at.ends && value.code != "" {
					continue
				}
				code := step{code: at.code + value.code}.text()
				want := mustBe(at, value)
				seen[want]++
				holdParts(t, kind, s, code, at.ends || value.ends, want)
			}
		}
	}
	for _, err := range []error{nil, api.ErrShort, api.ErrForm, api.ErrOrder} {
		if seen[err] < 10 {
			t.Errorf("%v: only %d", err, seen[err])
		}
	}
}

// holdParts holds what Get tells of bits, whatever stands ahead of them, and behind, if b needn't end there.
func holdParts(t *testing.T, kind int, s kinds.State, code string, ends bool, want error) {
	t.Helper()
	for more := range 16 {
		// A slice ends just behind the bits, if this makes whole bytes.
		if ends && (more+len(code))%8 != 0 {
			continue
		}
		behind := ""
		if !ends {
			behind = ones(more)
		}
		for _, before := range pads(more) {
			b := made(before + code + behind)
			if want == nil {
				_, _, n, err := kinds.Get(kind, s, b, more)
				if n != len(code) || err != nil {
					t.Fatalf("%d, %s from %d: %d, %v", kind, before+code, more, n, err)
				}
				holdTold(t, kind, s, b, more)
				continue
			}
			hold(t, kind, s, b, more, answer{err: want})
		}
	}
}

// Codes of T that are read well, behind states at whose ends the time goes around, or doesn't.
func TestGetOfTimesThatDoNotRise(t *testing.T) {
	for _, c := range []struct {
		n    int
		t, d int64
		code string
		want int64 // the time behind, or the last one, if it doesn't rise
	}{
		{1, 100, 0, "0", 100},
		{1, 100, 0, "10 1111111", 100},
		{1, 100, 0, "10 0000001", 101},
		{2, 100, 5, "0", 105},
		{2, 100, 5, "10 1111011", 100},
		{2, 100, 5, "10 1111100", 101},
		{2, 100, 5, "10 1111010", 100},
		{2, greatest - 4, 4, "0", greatest},
		{2, greatest - 4, 4, "10 0000001", greatest - 4},
		{2, greatest - 4, 4, "10 1111111", greatest - 1},
		{2, greatest - 4, 4, "1111 0" + ones(63), greatest - 4},
		{2, -1, greatest, "0", greatest - 1},
		{2, -1, greatest, "10 0000001", greatest},
		{2, -1, greatest, "10 0000010", -1},
		{2, -1, greatest, "1111 1" + zeros(63), -1},
		{2, greatest, -1, "0", greatest},
		{2, greatest, -1, "10 0000001", greatest},
		{2, greatest, -1, "10 0000010", greatest},
		{2, greatest, -1, "10 0111111", greatest},
		{2, least + 1, 1, "10 1111101", greatest},
		{2, least + 1, 1, "10 1111110", least + 1},
		{2, least + 1, 1, "10 1111111", least + 1},
		{1, least, 0, "10 1111111", greatest},
		{1, least, 0, "0", least},
		{1, least, 0, "1111 1" + zeros(63), 0},
		{1, 0, 0, "1111 1" + zeros(63), 0},
		{1, -1, 0, "1111 1" + zeros(63), greatest},
		{2, 0, least, "0", 0},
		{2, 0, least, "10 1111111", greatest},
		{2, 0, least, "10 0000001", 0},
	} {
		for _, kind := range bothKinds() {
			s := byInts(c.n, c.t, c.d, 7, 0)
			if kind == api.Xor {
				s = byXor(c.n, c.t, c.d, 7, 0, 0)
			}
			code := step{code: c.code + "0"}.text()
			if c.want == c.t {
				holdParts(t, kind, s, code, false, api.ErrOrder)
				continue
			}
			holdParts(t, kind, s, code, false, nil)
			if x, _, _, err := kinds.Get(kind, s, made(code), 0); x != sample(c.want, 7) || err != nil {
				t.Errorf("%v, %s: %v, %v; want %d", s, c.code, x, err, c.want)
			}
		}
	}
}

// In each state, what 16 bits may be: few samples, and all errors.
func TestGetOfEveryTwoBytes(t *testing.T) {
	seen := map[error]int{}
	for _, kind := range bothKinds() {
		for k, s := range states(kind)[1:] {
			for i := k % 7; i < 1<<16; i += 7 {
				b := []byte{byte(i >> 8), byte(i)}
				want := told(t, kind, s, b, 0)
				hold(t, kind, s, b, 0, want)
				seen[want.err]++
			}
		}
	}
	for _, err := range []error{nil, api.ErrShort, api.ErrForm, api.ErrOrder} {
		if seen[err] < 1000 {
			t.Errorf("%v: only %d", err, seen[err])
		}
	}
}

func TestGetOfMixedBytes(t *testing.T) {
	for _, kind := range bothKinds() {
		list := states(kind)
		for start := range uint64(200) {
			b := mixed(start, int(start%40))
			for at := -1; at <= 8*len(b)+1; at++ {
				holdTold(t, kind, list[(at+1)%len(list)], b, at)
				holdTold(t, kind, kinds.State{}, b, at)
			}
		}
	}
}

// The error is the api's own value: one that is only like it, or wraps it, is another one.
func TestErrorsAreTheCodesThemselves(t *testing.T) {
	x, n := byXor(1, 100, 0, 7, 0, 0), byInts(1, 100, 0, 7, 0)
	for _, c := range []struct {
		kind int
		s    kinds.State
		b    []byte
		at   int
		want api.Code
	}{
		{0, x, nil, 0, api.ErrKind},
		{3, kinds.State{}, make([]byte, 16), 0, api.ErrKind},
		{api.Xor, kinds.State{}, make([]byte, 15), 0, api.ErrShort},
		{api.Ints, kinds.State{}, make([]byte, 16), 1, api.ErrShort},
		{api.Xor, kinds.State{}, make([]byte, 7), 0, api.ErrShort},
		{api.Xor, x, nil, 0, api.ErrShort},
		{api.Ints, n, []byte{0x80}, 0, api.ErrShort},
		{api.Xor, x, []byte{0x80, 0xff}, 0, api.ErrShort},
		{api.Ints, n, []byte{0x80, 0xff}, 0, api.ErrShort},
		{api.Xor, x, []byte{0x80, 0}, 0, api.ErrForm},
		{api.Ints, n, []byte{0x80, 0}, 0, api.ErrForm},
		{api.Xor, x, []byte{0x80, 0xc0}, 0, api.ErrForm},
		{api.Ints, n, []byte{0x80, 0xc0, 0}, 0, api.ErrForm},
		{api.Xor, x, []byte{0}, 0, api.ErrOrder},
		{api.Ints, n, []byte{0}, 0, api.ErrOrder},
	} {
		_, _, _, err := kinds.Get(c.kind, c.s, c.b, c.at)
		if code, ok := err.(api.Code); !ok || code != c.want {
			t.Errorf("%d, %v, %v, %d: %#v", c.kind, c.s, c.b, c.at, err)
		}
	}
	_, _, noKind := kinds.Put(7, x, sample(101, 7))
	_, _, noOrder := kinds.Put(api.Xor, x, sample(100, 7))
	for i, want := range []api.Code{api.ErrKind, api.ErrOrder} {
		if code, ok := []error{noKind, noOrder}[i].(api.Code); !ok || code != want {
			t.Errorf("%#v, %#v", noKind, noOrder)
		}
	}
}

// Behind the first sample it is the state of that sample, whatever v is.
func TestAfterTheFirst(t *testing.T) {
	for _, at := range ends() {
		for _, w := range ends() {
			x := sample(int64(at), w)
			for _, v := range []xor.State{{}, window(w, 0, 0), window(w, 0, 64), window(w+1, 60, 3), window(3, 63, 1)} {
				if got, want := kinds.After(api.Xor, kinds.State{}, x, v), byXor(1, x.T, 0, w, 0, 0); got != want {
					t.Fatalf("by Xor, %v, %v: %v", x, v, got)
				}
				if got, want := kinds.After(api.Ints, kinds.State{}, x, v), byInts(1, x.T, 0, w, 0); got != want {
					t.Fatalf("by Ints, %v, %v: %v", x, v, got)
				}
			}
		}
	}
}

// Behind another one it is the state that is written out; by Xor layer 7's is v, by Ints v is nothing to it.
func TestAfterTheOthers(t *testing.T) {
	each(func(kind int, s kinds.State, p step) {
		if s.N == 0 {
			return
		}
		for _, v := range []xor.State{p.next.X, {}, window(p.x.V, 0, 64), window(p.x.V, 17, 20), window(p.x.V+1, 63, 1), window(5, 0, 0)} {
			want := p.next
			if kind == api.Xor {
				want.X = v
			}
			if got := kinds.After(kind, s, p.x, v); got != want {
				t.Fatalf("After(%d, %v, %v, %v): %v; want %v", kind, s, p.x, v, got, want)
			}
		}
	})
}

// It is the state that Put tells, and Get.
func TestAfterIsWhatPutTells(t *testing.T) {
	for start := range uint64(200) {
		for _, kind := range bothKinds() {
			var s kinds.State
			for _, x := range walk(start, 40) {
				y, next, err := kinds.Put(kind, s, x)
				if err != nil {
					t.Fatal(err)
				}
				_, got, _, err := kinds.Get(kind, s, y.B, 0)
				if after := kinds.After(kind, s, x, next.X); after != next || got != next || err != nil {
					t.Fatalf("%d, %v, %v: %v, %v, %v; want %v", kind, s, x, after, got, err, next)
				}
				s = next
			}
		}
	}
}

// Of no kind, and of times that don't rise, After tells nothing that is promised; but it ends, and doesn't panic.
func TestAfterEnds(t *testing.T) {
	for _, kind := range append(noKinds(), bothKinds()...) {
		for _, of := range bothKinds() {
			for _, s := range states(of) {
				kinds.After(kind, s, sample(s.T, 0), xor.State{})
				kinds.After(kind, s, sample(least, all), window(3, 63, 1))
			}
		}
	}
}

// overwrite turns every bit of a slice's memory, that behind its end, too.
func overwrite(b []byte) {
	b = b[:cap(b)]
	for i := range b {
		b[i] = ^b[i]
	}
}

func TestPutIsNewMemory(t *testing.T) {
	each(func(kind int, s kinds.State, p step) {
		one, _, _ := kinds.Put(kind, s, p.x)
		other, _, _ := kinds.Put(kind, s, p.x)
		overwrite(one.B)
		if got := text(t, other); got != p.text() {
			t.Errorf("%d, %v: two answers share memory: %s", kind, p.x, got)
		}
		holdPut(t, kind, s, p.x, p.text(), p.next)
	})
}

// What was told stays as it was, whatever is asked behind it.
func TestWhatWasToldStays(t *testing.T) {
	var list []bits.Bits
	each(func(kind int, s kinds.State, p step) {
		x, _, _ := kinds.Put(kind, s, p.x)
		list = append(list, x)
	})
	each(func(kind int, s kinds.State, p step) {
		if got := text(t, list[0]); got != p.text() {
			t.Fatalf("%d, %v: %s, want %s", kind, p.x, got, p.text())
		}
		overwrite(list[0].B)
		list = list[1:]
	})
}

func TestGetChangesNothing(t *testing.T) {
	for _, kind := range bothKinds() {
		some := states(kind)[:12]
		for _, b := range lists() {
			for _, room := range []byte{0, 0x5a, 255} {
				memory := append(bytes.Clone(b), bytes.Repeat([]byte{room}, 20)...)
				before := bytes.Clone(memory)
				for at := -1; at <= 8*len(b)+1; at++ {
					for _, s := range some {
						kinds.Get(kind, s, memory[:len(b)], at)
						// Held against it behind each call: two changes may undo each other.
						if !bytes.Equal(memory, before) {
							t.Fatalf("Get(%d, %v, %v, %d): %v, was %v", kind, s, b, at, memory, before)
						}
					}
				}
			}
		}
	}
}

// All calls hang on what they are given alone, not on what an earlier one saw.
func TestNothingIsKept(t *testing.T) {
	x, n := byXor(1, 100, 0, 7, 0, 0), byInts(1, 100, 0, 7, 0)
	b := []byte{0x80, 0x80}
	for range 3 {
		hold(t, api.Xor, x, b, 0, answer{sample(101, 7), byXor(2, 101, 1, 7, 0, 0), 10, nil})
		hold(t, api.Ints, n, b, 0, answer{sample(101, 7), byInts(2, 101, 1, 7, 0), 10, nil})
		b[1] = 0xc0
		hold(t, api.Xor, x, b, 0, answer{err: api.ErrForm})
		hold(t, api.Ints, n, b, 0, answer{err: api.ErrShort})
		b[0] = 0
		hold(t, api.Ints, n, b, 0, answer{err: api.ErrOrder})
		b[0], b[1] = 0x80, 0x80
		holdPut(t, api.Ints, n, sample(101, 8), "100000001"+"100000001", byInts(2, 101, 1, 8, 1))
		holdPut(t, api.Xor, x, sample(101, 6), "100000001"+"11"+"111111"+"000000"+"1", byXor(2, 101, 1, 6, 63, 1))
	}
}

// What was put is got, one sample behind the other, whatever bits stand ahead and behind.
func TestWhatWasPutIsGot(t *testing.T) {
	for start := range uint64(120) {
		list := walk(start, 60)
		for _, kind := range bothKinds() {
			for _, before := range pads(int(start % 19)) {
				for _, fill := range []uint64{0, all} {
					y := bits.Bits{B: made(before), N: len(before)}
					var s kinds.State
					for _, x := range list {
						code, next, err := kinds.Put(kind, s, x)
						if err != nil {
							t.Fatal(err)
						}
						y, s = bits.Join(y, code), next
					}
					end := y.N
					y = bits.Put(y, fill, 15)
					holdChain(t, kind, y.B, len(before), end, list)
				}
			}
		}
	}
}

// holdChain fails the test, if Get tells other samples than these, one behind the other, from at up to end, or other states than Put.
func holdChain(t *testing.T, kind int, b []byte, at, end int, list []api.Sample) {
	t.Helper()
	var s kinds.State
	for i, want := range list {
		code, behind, _ := kinds.Put(kind, s, want)
		x, next, n, err := kinds.Get(kind, s, b, at)
		if x != want || next != behind || n != code.N || err != nil {
			t.Fatalf("%d, the %d-th, at %d, in %v: %v, %v, %d, %v; want %v, %v, %d", kind, i, at, s, x, next, n, err, want, behind, code.N)
		}
		s, at = next, at+n
	}
	if at != end {
		t.Fatalf("%d: at %d, want %d", kind, at, end)
	}
}

// A sample's bits are the only ones that tell it: what is got has just those bits, when it is put.
func TestWhatIsGotHasThoseBits(t *testing.T) {
	got := map[int]int{}
	check := func(kind int, s kinds.State, b []byte, at int) {
		t.Helper()
		x, next, n, err := kinds.Get(kind, s, b, at)
		if err != nil {
			return
		}
		got[kind]++
		whole := bytesText(b)
		code, behind, err := kinds.Put(kind, s, x)
		if n < 2 || n > len(whole)-at || err != nil || text(t, code) != whole[at:at+n] || behind != next {
			t.Fatalf("%d, %s from %d in %v: %v, %v, %d, %v", kind, whole, at, s, x, next, n, err)
		}
	}
	for _, kind := range bothKinds() {
		list := states(kind)
		for start := range uint64(200) {
			b := mixed(start, 60)
			for at := range 8 * len(b) {
				check(kind, list[at%len(list)], b, at)
			}
		}
	}
	for _, kind := range bothKinds() {
		if got[kind] < 5000 {
			t.Errorf("%d: only %d samples were got", kind, got[kind])
		}
	}
}
