package batch_test

import (
	"bytes"
	"fmt"
	"math"
	"slices"
	"strings"
	"testing"

	"gaiter/api"
	"gaiter/batch"
	"gaiter/chunk"
	"gaiter/fill"
	"gaiter/kinds"
	"gaiter/slow"
	"gaiter/xor"
)

// The tests hold Next against bits written out as 0s and 1s, and, of any bits, against layer 8's Get, asked of each sample at another place than the reader stands at.

const (
	least    = math.MinInt64
	greatest = math.MaxInt64
	all      = uint64(math.MaxUint64)
	half     = uint64(1) << 63
)

// row is a sample behind those ahead of it, its bits written out, and the state behind it.
type row struct {
	x    api.Sample
	code string
	next kinds.State
}

// chain is samples of one kind, one behind the other.
type chain struct {
	kind int
	rows []row
}

// answer is what Next tells, and how many bits the reader has ahead of it then.
type answer struct {
	list []api.Sample
	next kinds.State
	left int
	err  error
}

func sample(t int64, v uint64) api.Sample { return api.Sample{T: t, V: v} }

// byXor tells a state in short.
func byXor(n int, t, d int64, v uint64, lead, size int) kinds.State {
	return kinds.State{N: n, T: t, D: d, V: v, X: xor.State{Prev: v, Lead: lead, Len: size}}
}

// byInts tells a state in short.
func byInts(n int, t, d int64, v, e uint64) kinds.State {
	return kinds.State{N: n, T: t, D: d, V: v, E: e}
}

func zeros(n int) string { return strings.Repeat("0", n) }

func ones(n int) string { return strings.Repeat("1", n) }

// binary tells a number's 64 bits.
func binary(v uint64) string { return fmt.Sprintf("%064b", v) }

// first tells the bits of a first sample.
func first(t int64, v uint64) string { return binary(uint64(t)) + binary(v) }

// plain tells a text without what only parts it.
func plain(s string) string { return strings.NewReplacer(" ", "", ",", "").Replace(s) }

// made tells a text's bytes: 0s fill up the last one, and no byte is without a bit of the text.
func made(s string) []byte {
	b := make([]byte, (len(s)+7)/8)
	for i, c := range s {
		if c == '1' {
			b[i/8] |= 128 >> (i % 8)
		}
	}
	return b
}

// textOf tells the text of bytes.
func textOf(b []byte) string {
	var s strings.Builder
	for _, c := range b {
		fmt.Fprintf(&s, "%08b", c)
	}
	return s.String()
}

// mixer tells numbers that hang on a start alone, the lowest bits as mixed as the highest ones.
func mixer(start uint64) func() uint64 {
	v := start
	return func() uint64 {
		v = v*6364136223846793005 + 1442695040888963407
		x := v
		x ^= x >> 32
		x *= 0xd6e8feb86659fd93
		return x ^ x>>32
	}
}

// mixedText tells n bits that hang on a start alone.
func mixedText(start uint64, n int) string {
	next := mixer(start)
	var s strings.Builder
	for s.Len() < n {
		s.WriteString(binary(next()))
	}
	return s.String()[:n]
}

// pads tells n bits of several kinds, to stand ahead of a reader, or behind samples.
func pads(n int) []string { return []string{zeros(n), ones(n), mixedText(uint64(n)+7, n)} }

// chains tells samples written out, with steps of T and V that go around.
func chains() []chain { return append(xorChains(), intsChains()...) }

func xorChains() []chain {
	return []chain{
		{api.Xor, []row{
			{sample(100, 7), first(100, 7), byXor(1, 100, 0, 7, 0, 0)},
			{sample(101, 7), "10 0000001, 0", byXor(2, 101, 1, 7, 0, 0)},
			{sample(102, 7), "0, 0", byXor(3, 102, 1, 7, 0, 0)},
			{sample(104, 23), "10 0000001, 11 111011 000000 1", byXor(4, 104, 2, 23, 59, 1)},
			{sample(105, 7), "10 1111111, 10 1", byXor(5, 105, 1, 7, 59, 1)},
			{sample(106, 5), "0, 11 111110 000000 1", byXor(6, 106, 1, 5, 62, 1)},
			{sample(300, 5), "110 011000001, 0", byXor(7, 300, 194, 5, 62, 1)},
			{sample(301, 7), "110 100111111, 10 1", byXor(8, 301, 1, 7, 62, 1)},
			{sample(2349, 7), "1110 011111111111, 0", byXor(9, 2349, 2048, 7, 62, 1)},
			{sample(4397, half|7), "0, 11 000000 000000 1", byXor(10, 4397, 2048, half|7, 0, 1)},
			{sample(4398, 7), "1110 100000000001, 10 1", byXor(11, 4398, 1, 7, 0, 1)},
			{sample(6447, 6), "1111 " + zeros(52) + "100000000000, 11 111111 000000 1", byXor(12, 6447, 2049, 6, 63, 1)},
			{sample(8496, 0x5a6), "0, 11 110101 000101 101101", byXor(13, 8496, 2049, 0x5a6, 53, 6)},
		}},
		{api.Xor, []row{
			{sample(0, 5), first(0, 5), byXor(1, 0, 0, 5, 0, 0)},
			{sample(1, 61), "10 0000001, 11 111010 000010 111", byXor(2, 1, 1, 61, 58, 3)},
			{sample(2, 21), "0, 10 101", byXor(3, 2, 1, 21, 58, 3)},
			{sample(3, 5), "0, 10 010", byXor(4, 3, 1, 5, 58, 3)},
			{sample(4, 5), "0, 0", byXor(5, 4, 1, 5, 58, 3)},
		}},
		{api.Xor, []row{
			{sample(least, 0), first(least, 0), byXor(1, least, 0, 0, 0, 0)},
			{sample(greatest, all), "10 1111111, 11 000000 111111 " + ones(64), byXor(2, greatest, -1, all, 0, 64)},
		}},
		// Behind a window of 64 bits, all bits are in it.
		{api.Xor, []row{
			{sample(-9, half|6), first(-9, half|6), byXor(1, -9, 0, half|6, 0, 0)},
			{sample(-8, 1), "10 0000001, 11 000000 111111 1" + zeros(60) + "111", byXor(2, -8, 1, 1, 0, 64)},
			{sample(-7, 0), "0, 10 " + zeros(63) + "1", byXor(3, -7, 1, 0, 0, 64)},
			{sample(-6, half), "0, 10 1" + zeros(63), byXor(4, -6, 1, half, 0, 64)},
			{sample(-5, half-1), "0, 10 " + ones(64), byXor(5, -5, 1, half-1, 0, 64)},
			{sample(-4, half-1), "0, 0", byXor(6, -4, 1, half-1, 0, 64)},
		}},
		{api.Xor, []row{
			{sample(least, all), first(least, all), byXor(1, least, 0, all, 0, 0)},
			{sample(-1, all), "1111 0" + ones(63) + ", 0", byXor(2, -1, greatest, all, 0, 0)},
			{sample(greatest, all-1), "10 0000001, 11 111111 000000 1", byXor(3, greatest, least, all-1, 63, 1)},
		}},
		{api.Xor, []row{
			{sample(least, 9), first(least, 9), byXor(1, least, 0, 9, 0, 0)},
			{sample(0, 9), "1111 1" + zeros(63) + ", 0", byXor(2, 0, least, 9, 0, 0)},
			{sample(1, 9), "1111 1" + zeros(62) + "1, 0", byXor(3, 1, 1, 9, 0, 0)},
			{sample(greatest, 9), "1111 0" + ones(61) + "01, 0", byXor(4, greatest, greatest-1, 9, 0, 0)},
		}},
		{api.Xor, []row{
			{sample(greatest-1, 3), first(greatest-1, 3), byXor(1, greatest-1, 0, 3, 0, 0)},
			{sample(greatest, 2), "10 0000001, 11 111111 000000 1", byXor(2, greatest, 1, 2, 63, 1)},
		}},
	}
}

func intsChains() []chain {
	return []chain{
		{api.Ints, []row{
			{sample(10, 5), first(10, 5), byInts(1, 10, 0, 5, 0)},
			{sample(20, 8), "10 0001010, 10 0000011", byInts(2, 20, 10, 8, 3)},
			{sample(30, 11), "0, 0", byInts(3, 30, 10, 11, 3)},
			{sample(40, 11), "0, 10 1111101", byInts(4, 40, 10, 11, 0)},
			{sample(50, 11), "0, 0", byInts(5, 50, 10, 11, 0)},
			{sample(60, 4), "0, 10 1111001", byInts(6, 60, 10, 4, all-6)},
			{sample(70, all-2), "0, 0", byInts(7, 70, 10, all-2, all-6)},
			{sample(80, 2), "0, 10 0001100", byInts(8, 80, 10, 2, 5)},
			{sample(81, half+2), "10 1110111, 1111 0" + ones(60) + "011", byInts(9, 81, 1, half+2, half)},
			{sample(82, 2), "0, 0", byInts(10, 82, 1, 2, half)},
			{sample(83, all), "0, 1111 0" + ones(61) + "01", byInts(11, 83, 1, all, all-2)},
			{sample(84, all), "0, 10 0000011", byInts(12, 84, 1, all, 0)},
			{sample(85, 255), "0, 1110 000100000000", byInts(13, 85, 1, 255, 256)},
			{sample(341, 600), "110 011111111, 110 001011001", byInts(14, 341, 256, 600, 345)},
		}},
		{api.Ints, []row{
			{sample(-1, 0), first(-1, 0), byInts(1, -1, 0, 0, 0)},
			{sample(0, all), "10 0000001, 10 1111111", byInts(2, 0, 1, all, all)},
			{sample(1, 0), "0, 10 0000010", byInts(3, 1, 1, 0, 1)},
			{sample(2, 1), "0, 0", byInts(4, 2, 1, 1, 1)},
		}},
		{api.Ints, []row{
			{sample(least, all), first(least, all), byInts(1, least, 0, all, 0)},
			{sample(greatest, half-1), "10 1111111, 1111 1" + zeros(63), byInts(2, greatest, -1, half-1, half)},
		}},
		{api.Ints, []row{
			{sample(least, 0), first(least, 0), byInts(1, least, 0, 0, 0)},
			{sample(-1, half-1), "1111 0" + ones(63) + ", 1111 0" + ones(63), byInts(2, -1, greatest, half-1, half-1)},
			{sample(greatest, all), "10 0000001, 10 0000001", byInts(3, greatest, least, all, half)},
		}},
		{api.Ints, []row{
			{sample(least, 0), first(least, 0), byInts(1, least, 0, 0, 0)},
			{sample(0, half), "1111 1" + zeros(63) + ", 1111 1" + zeros(63), byInts(2, 0, least, half, half)},
			{sample(1, half+1), "1111 1" + zeros(62) + "1, 1111 1" + zeros(62) + "1", byInts(3, 1, 1, half+1, 1)},
			{sample(greatest, half), "1111 0" + ones(61) + "01, 10 1111110", byInts(4, greatest, greatest-1, half, all)},
		}},
		{api.Ints, []row{
			{sample(greatest-1, 3), first(greatest-1, 3), byInts(1, greatest-1, 0, 3, 0)},
			{sample(greatest, 3), "10 0000001, 0", byInts(2, greatest, 1, 3, 0)},
		}},
	}
}

// at tells the state ahead of a chain's i-th row.
func (c chain) at(i int) kinds.State {
	if i == 0 {
		return kinds.State{}
	}
	return c.rows[i-1].next
}

// part tells the samples of some rows, and the text of all their bits.
func (c chain) part(from, to int) ([]api.Sample, string) {
	var list []api.Sample
	var text strings.Builder
	for _, r := range c.rows[from:to] {
		list = append(list, r.x)
		text.WriteString(plain(r.code))
	}
	return list, text.String()
}

// parts tells each chain's parts, from each row to each one.
func parts(do func(c chain, from, to int)) {
	for _, c := range chains() {
		for from := range c.rows {
			for to := from; to <= len(c.rows); to++ {
				do(c, from, to)
			}
		}
	}
}

func bothKinds() []int { return []int{api.Xor, api.Ints} }

// noKinds tells numbers that are no kind; some of them would be one, if bits of them were lost.
func noKinds() []int {
	list := []int{0, 3, 4, 5, 7, 10, -1, -2, -3, 257, 258, -255, -254, 1<<16 + 1, 1<<16 + 2, 1<<32 + 1, 1<<32 + 2}
	return append(list, math.MinInt, math.MinInt+1, math.MinInt+2, math.MaxInt, math.MaxInt-1, math.MaxInt32, math.MinInt32)
}

// noNumbers tells numbers of samples below 1; some of them would be more, if bits of them were lost.
func noNumbers() []int {
	list := []int{0, -1, -2, -31, -32, -33, -255, -256, -65535, -65536, 1 - 1<<32, 32 - 1<<32, -1 << 32}
	return append(list, math.MinInt, math.MinInt+1, math.MinInt+32, math.MinInt32, math.MinInt32+1)
}

// greatNumbers tells numbers of samples from the most on that are told; some of them would be fewer, if bits of them were lost.
func greatNumbers() []int {
	list := []int{32, 33, 34, 40, 63, 64, 65, 100, 255, 256, 257, 1000, 65535, 65536, 65537, 1 << 31, 1<<31 + 1, 1 << 32, 1<<32 + 1, 1 << 62}
	return append(list, math.MaxInt, math.MaxInt-1, math.MaxInt32)
}

// states tells states of a kind, the one of 0s ahead.
func states(kind int) []kinds.State {
	list := []kinds.State{{}}
	for _, c := range chains() {
		if c.kind == kind {
			for _, r := range c.rows {
				list = append(list, r.next)
			}
		}
	}
	for start := range uint64(4) {
		_, next := codesOf(kind, kinds.State{}, walk(start, 40))
		list = append(list, next[3], next[20], next[39])
	}
	return list
}

// walk tells n samples of rising times: steps of several sizes, as far as n of them have room, and values that stay, go on alike, or jump.
func walk(start uint64, n int) []api.Sample {
	next := mixer(start)
	room := all / uint64(n)
	x := sample(least+int64(next()%9), next())
	d, e := uint64(1), uint64(0)
	list := make([]api.Sample, n)
	for i := range list {
		list[i] = x
		switch next() % 6 {
		case 0, 1, 2: // as before
		case 3:
			d = next() % 9
		case 4:
			d += next() % 600
		default:
			d = next() >> (next() % 64)
		}
		switch next() % 8 {
		case 0, 1, 2: // as before
		case 3:
			e = 0
		case 4:
			e += next()%9 - 4
		case 5:
			e += next()%5000 - 2500
		default:
			e = next() >> (next() % 64) << (next() % 20)
		}
		d = d%(room-9) + 1
		x = sample(x.T+int64(d), x.V+e)
	}
	return list
}

// even tells n samples whose times are 1 apart, all of one value.
func even(n int) []api.Sample {
	list := make([]api.Sample, n)
	for i := range list {
		list[i] = sample(int64(i)-70, 9)
	}
	return list
}

// codesOf tells the text of each sample's bits in a state, by layer 8's words, and the states behind them.
func codesOf(kind int, s kinds.State, list []api.Sample) ([]string, []kinds.State) {
	codes, states := make([]string, len(list)), make([]kinds.State, len(list))
	for i, x := range list {
		code, next, err := kinds.Put(kind, s, x)
		if err != nil {
			panic(fmt.Sprint(kind, i, x, err))
		}
		codes[i], states[i], s = textOf(code.B)[:code.N], next, next
	}
	return codes, states
}

// standing tells a reader whose bits ahead are a text, behind other bits; both together are whole bytes.
func standing(t *testing.T, before, ahead string) *fill.Reader {
	t.Helper()
	if (len(before)+len(ahead))%8 != 0 {
		t.Fatalf("%d and %d bits are no bytes", len(before), len(ahead))
	}
	r := fill.New(made(before + ahead))
	if !r.Skip(len(before)) {
		t.Fatalf("no %d bits", len(before))
	}
	return r
}

// holdAhead fails the test, if a reader has other bits ahead of it; it leaves r behind them.
func holdAhead(t *testing.T, r *fill.Reader, ahead string) {
	t.Helper()
	if r.Left() != len(ahead) {
		t.Fatalf("%d bits are left, want %d", r.Left(), len(ahead))
	}
	for len(ahead) > 0 {
		n := min(len(ahead), 56)
		got, ok := r.Read(n)
		if want := fmt.Sprintf("%0*b", n, got); !ok || want != ahead[:n] {
			t.Fatalf("%s is ahead, want %s", want, ahead[:n])
		}
		ahead = ahead[n:]
	}
}

// same tells whether what Next told is what is wanted; where the reader stands behind a sample's error isn't told.
func same(got, want answer) bool {
	placed := want.err == nil || want.err == error(api.ErrKind)
	return slices.Equal(got.list, want.list) && got.next == want.next && got.err == want.err && (!placed || got.left == want.left)
}

// short tells an answer as far as a test's output needs it.
func (a answer) short() string {
	return fmt.Sprintf("%d samples from %v, %v, %d left, %v", len(a.list), a.list[:min(4, len(a.list))], a.next, a.left, a.err)
}

// next asks Next.
func next(kind int, r *fill.Reader, s kinds.State, n int) answer {
	list, behind, err := batch.Next(kind, r, s, n)
	return answer{list, behind, r.Left(), err}
}

// hold fails the test, if Next tells anything but this of a reader of these bits, behind others; the error is the value itself.
func hold(t *testing.T, kind int, before, ahead string, s kinds.State, n int, want answer) {
	t.Helper()
	r := standing(t, before, ahead)
	got := next(kind, r, s, n)
	if !same(got, want) {
		t.Fatalf("Next(%d, %d bits behind and %d ahead, %.200s, %v, %d): %s; want %s", kind, len(before), len(ahead), ahead, s, n, got.short(), want.short())
	}
	if want.err == nil {
		holdAhead(t, r, ahead[len(ahead)-want.left:])
	}
}

// told tells what Next must answer, by the words of P11.1.
func told(kind int, ahead string, s kinds.State, n int) answer {
	if kind != api.Xor && kind != api.Ints {
		return answer{nil, s, len(ahead), api.ErrKind}
	}
	var list []api.Sample
	for len(list) < n && len(list) < 32 {
		// Bytes end nowhere else than at a byte's end: so the bits are moved there.
		pad := ones((8 - len(ahead)%8) % 8)
		x, behind, size, err := kinds.Get(kind, s, made(pad+ahead), len(pad))
		if err != nil {
			return answer{list, s, len(ahead), err}
		}
		list, s, ahead = append(list, x), behind, ahead[size:]
	}
	return answer{list, s, len(ahead), nil}
}

// holdTold fails the test, if Next answers otherwise than it must; it tells what it must.
func holdTold(t *testing.T, kind int, before, ahead string, s kinds.State, n int) answer {
	t.Helper()
	want := told(kind, ahead, s, n)
	hold(t, kind, before, ahead, s, n, want)
	return want
}

// places tells texts of so many bits that with n more they are whole bytes.
func places(n int) []string {
	least := (8 - n%8) % 8
	return append(pads(least), append(pads(least+8), pads(least+64)...)...)
}

func TestExamples(t *testing.T) {
	r := fill.New(nil)
	if list, s, err := batch.Next(api.Xor, r, kinds.State{}, 0); len(list) != 0 || s != (kinds.State{}) || err != nil {
		t.Error(list, s, err)
	}
	head := []byte{1, 0x23, 0x45, 0x67, 0x89, 0xab, 0xcd, 0xef, 0xfe, 0xdc, 0xba, 0x98, 0x76, 0x54, 0x32, 0x10, 0x80, 0x8c}
	want := []api.Sample{sample(0x0123456789abcdef, 0xfedcba9876543210), sample(0x0123456789abcdf0, 0xfedcba9876543210), sample(0x0123456789abcdf1, 0xfedcba9876543210)}
	for _, kind := range bothKinds() {
		r := fill.New(head)
		s := byXor(3, 0x0123456789abcdf1, 1, 0xfedcba9876543210, 0, 0)
		if kind == api.Ints {
			s = byInts(3, 0x0123456789abcdf1, 1, 0xfedcba9876543210, 0)
		}
		if got := next(kind, r, kinds.State{}, 3); !same(got, answer{want, s, 4, nil}) {
			t.Error(kind, got.short())
		}
		if v, ok := r.Read(4); v != 12 || !ok {
			t.Error(kind, v, ok)
		}
	}
}

// Each part of what is written out, behind any number of bits up to three bytes and the ends of loads of eight, with any bits behind it.
func TestWrittenOut(t *testing.T) {
	parts(func(c chain, from, to int) {
		list, text := c.part(from, to)
		for place := range 24 {
			tail := (8-(place+len(text))%8)%8 + 8*(place%3)
			for i, before := range pads(place) {
				behind := pads(tail)[(i+place)%3]
				hold(t, c.kind, before, text+behind, c.at(from), to-from, answer{list, c.at(to), tail, nil})
			}
		}
	})
}

// A first sample's numbers go across nine bytes, wherever they don't begin with one.
func TestFirstSampleAtAnyPlace(t *testing.T) {
	ends := []uint64{0, 1, 2, 255, all, all - 1, half, half - 1, half + 1, 1 << 32, 0x0123456789abcdef, 0xfedcba9876543210}
	for i, at := range ends {
		for j, v := range ends {
			for place := range 80 {
				before := pads(place)[(i+j+place)%3]
				behind := pads((8 - place%8) % 8)[(i+j)%3]
				for _, kind := range bothKinds() {
					s := byXor(1, int64(at), 0, v, 0, 0)
					if kind == api.Ints {
						s = byInts(1, int64(at), 0, v, 0)
					}
					want := answer{[]api.Sample{sample(int64(at), v)}, s, len(behind), nil}
					hold(t, kind, before, first(int64(at), v)+behind, kinds.State{}, 1, want)
				}
			}
		}
	}
}

// What is no kind is told ahead of all: the state that was handed in, whatever it is, and the reader stays.
func TestOfNoKind(t *testing.T) {
	list := append(states(api.Xor)[:8], states(api.Ints)[1:8]...)
	numbers := append(append(noNumbers(), greatNumbers()...), 1, 2, 31)
	for i, kind := range noKinds() {
		for k, s := range append(list, kinds.State{N: 4, T: 5}, kinds.State{N: -1, T: 6, D: 7, V: 8, E: 9, X: xor.State{Prev: 1, Lead: 2, Len: 3}}) {
			for j, n := range numbers {
				place := (i + j + k) % 19
				before := pads(place)[j%3]
				hold(t, kind, "", "", s, n, answer{nil, s, 0, api.ErrKind})
				for _, ahead := range []string{zeros(200), ones(200), first(5, 6) + "1000000010" + zeros(62), "1", "0", ""} {
					ahead += zeros((8 - (place+len(ahead))%8) % 8)
					hold(t, kind, before, ahead, s, n, answer{nil, s, len(ahead), api.ErrKind})
				}
			}
		}
	}
}

// The reader has all its bits ahead of it behind ErrKind, and they are read then as if nothing had been asked.
func TestNoKindLeavesTheReader(t *testing.T) {
	for _, c := range chains() {
		list, text := c.part(0, len(c.rows))
		for _, before := range places(len(text)) {
			r := standing(t, before, text)
			for _, kind := range noKinds() {
				next(kind, r, kinds.State{}, 5)
			}
			if got := next(c.kind, r, kinds.State{}, len(list)); !same(got, answer{list, c.at(len(list)), 0, nil}) {
				t.Fatal(got.short())
			}
		}
	}
}

// If none are asked for, none are told, whatever is ahead, and nothing is read.
func TestOfNone(t *testing.T) {
	aheads := []string{"", "0", "1", "10", ones(7), zeros(200), ones(200), "1000000010" + zeros(62), first(5, 6) + "1000000010", "100000000", "1111" + zeros(64)}
	for _, kind := range bothKinds() {
		for i, s := range states(kind) {
			for j, n := range noNumbers() {
				for _, ahead := range aheads {
					before := places(len(ahead))[(i+j)%9]
					hold(t, kind, before, ahead, s, n, answer{nil, s, len(ahead), nil})
				}
			}
		}
	}
}

// As many as are asked for are told, up to 32, and no more, of more that are there.
func TestNumbers(t *testing.T) {
	numbers := append(append(noNumbers(), greatNumbers()...), 1, 2, 3, 5, 8, 16, 30, 31)
	for start := range uint64(6) {
		list := even(120)
		if start > 0 {
			list = walk(start, 120)
		}
		for _, kind := range bothKinds() {
			codes, behind := codesOf(kind, kinds.State{}, list)
			for _, from := range []int{0, 1, 2, 31, 32, 33, 50, 88} {
				s := kinds.State{}
				if from > 0 {
					s = behind[from-1]
				}
				text := strings.Join(codes[from:], "")
				for i, n := range numbers {
					before := places(len(text))[(i+from)%9]
					want := answer{nil, s, len(text), nil}
					if told := min(n, 32); told > 0 {
						left := len(strings.Join(codes[from+told:], ""))
						want = answer{list[from : from+told], behind[from+told-1], left, nil}
					}
					hold(t, kind, before, text, s, n, want)
				}
			}
		}
	}
}

// Where just some are there, these are told, with ErrShort, if more are asked for and not all of 32 are there.
func TestAsManyAsThereAre(t *testing.T) {
	list := walk(11, 70)
	for _, kind := range bothKinds() {
		codes, behind := codesOf(kind, kinds.State{}, list)
		for there := range 67 {
			for from := range there + 1 {
				s := kinds.State{}
				if from > 0 {
					s = behind[from-1]
				}
				text := strings.Join(codes[from:there], "")
				before := places(len(text))[there%9]
				for _, n := range []int{1, 31, 32, 33, there - from - 1, there - from, there - from + 1, math.MaxInt} {
					want := answer{nil, s, len(text), nil}
					k := max(0, min(n, 32, there-from))
					if k > 0 {
						left := len(strings.Join(codes[from+k:there], ""))
						want = answer{list[from : from+k], behind[from+k-1], left, nil}
					}
					if k < min(n, 32) {
						want.err = api.ErrShort
					}
					hold(t, kind, before, text, s, n, want)
				}
			}
		}
	}
}

// fault is bits that are no sample's, and the error that they are; they end there, if that tells it.
type fault struct {
	kind int
	code string
	want api.Code
	ends bool
}

// evenFaults tells faults behind two of even's samples, or more.
func evenFaults() []fault {
	var list []fault
	both := func(code string, want api.Code, ends bool) {
		list = append(list, fault{api.Xor, code, want, ends}, fault{api.Ints, code, want, ends})
	}
	both("10 1111111, 0", api.ErrOrder, false)
	both("1110 100000000000, 0", api.ErrOrder, false)
	both("10 0000000, 0", api.ErrForm, false)
	both("0, 1", api.ErrShort, true)
	both("1110 00000000000", api.ErrShort, true)
	both("", api.ErrShort, true)
	list = append(list, fault{api.Xor, "0, 10", api.ErrForm, false})
	list = append(list, fault{api.Xor, "0, 11 111111 000001", api.ErrForm, false})
	list = append(list, fault{api.Xor, "0, 11 000000 111111 " + ones(63), api.ErrShort, true})
	list = append(list, fault{api.Ints, "0, 1111 " + zeros(64), api.ErrForm, false})
	list = append(list, fault{api.Ints, "0, 110 00000000", api.ErrShort, true})
	return list
}

// 33 samples are there, or the 33rd is none: 32 are told, and no error, if 32 are asked for, or more; the next call tells what the 33rd is.
func TestThe33rd(t *testing.T) {
	for _, f := range evenFaults() {
		for ahead := 30; ahead <= 33; ahead++ {
			codes, behind := codesOf(f.kind, kinds.State{}, even(ahead))
			bad := plain(f.code)
			if !f.ends {
				bad += ones(140)
			}
			text := strings.Join(codes, "") + bad
			for i, n := range []int{32, 33, 34, 1000, math.MaxInt} {
				before := places(len(text))[(i+ahead)%9]
				r := standing(t, before, text)
				if ahead < 32 {
					hold(t, f.kind, before, text, kinds.State{}, n, answer{even(ahead), behind[ahead-1], 0, f.want})
					hold(t, f.kind, before, text, kinds.State{}, ahead, answer{even(ahead), behind[ahead-1], len(bad), nil})
					continue
				}
				left := len(bad) + len(codes[32:])*2
				if got := next(f.kind, r, kinds.State{}, n); !same(got, answer{even(32), behind[31], left, nil}) {
					t.Fatal(f, got.short())
				}
				if got := next(f.kind, r, behind[31], n); !same(got, answer{even(ahead)[32:], behind[ahead-1], 0, f.want}) {
					t.Fatal(f, got.short())
				}
			}
		}
	}
	for _, kind := range bothKinds() {
		codes, behind := codesOf(kind, kinds.State{}, even(33))
		text := strings.Join(codes, "")
		for _, before := range places(len(text)) {
			r := standing(t, before, text)
			if got := next(kind, r, kinds.State{}, 33); !same(got, answer{even(33)[:32], behind[31], 2, nil}) {
				t.Fatal(got.short())
			}
			if got := next(kind, r, behind[31], 1); !same(got, answer{even(33)[32:], behind[32], 0, nil}) {
				t.Fatal(got.short())
			}
		}
	}
}

// Calls one behind the other tell what is there, each from the state that the one ahead told.
func TestCallsOneBehindTheOther(t *testing.T) {
	for start := range uint64(60) {
		size := mixer(start + 99)
		list := walk(start, 150)
		for _, kind := range bothKinds() {
			codes, states := codesOf(kind, kinds.State{}, list)
			text := strings.Join(codes, "")
			r := standing(t, places(len(text))[start%9], text)
			var s kinds.State
			for done, left := 0, len(text); done < len(list); {
				n := int(size()%45) - 4
				k := max(0, min(n, 32, len(list)-done))
				want := answer{list[done : done+k], s, left - len(strings.Join(codes[done:done+k], "")), nil}
				if k > 0 {
					want.next = states[done+k-1]
				}
				if k < min(n, 32) {
					want.err = api.ErrShort
				}
				got := next(kind, r, s, n)
				if !same(got, want) {
					t.Fatalf("%d, %d, behind %d, %d: %s; want %s", start, kind, done, n, got.short(), want.short())
				}
				s, done, left = got.next, done+k, want.left
			}
			holdEnd(t, kind, r, s)
		}
	}
}

// holdEnd fails the test, if a reader that is at its end tells anything but that.
func holdEnd(t *testing.T, kind int, r *fill.Reader, s kinds.State) {
	t.Helper()
	for range 2 {
		for _, n := range []int{1, 2, 31, 32, 33, math.MaxInt} {
			if got := next(kind, r, s, n); !same(got, answer{nil, s, 0, api.ErrShort}) || got.left != 0 {
				t.Fatalf("%d, %v, %d: %s", kind, s, n, got.short())
			}
		}
		for _, n := range []int{0, -1, math.MinInt} {
			if got := next(kind, r, s, n); !same(got, answer{nil, s, 0, nil}) {
				t.Fatalf("%d, %v, %d: %s", kind, s, n, got.short())
			}
		}
	}
}

// When nothing is left, each call tells so, from whatever state.
func TestNothingLeft(t *testing.T) {
	for _, kind := range bothKinds() {
		for _, s := range states(kind) {
			holdEnd(t, kind, fill.New(nil), s)
			holdEnd(t, kind, fill.New([]byte{}), s)
			for _, size := range []int{8, 16, 64, 128, 136} {
				for _, before := range pads(size) {
					holdEnd(t, kind, standing(t, before, ""), s)
				}
			}
		}
	}
}

// The 0s that fill up a byte are samples, if these are asked for: of two bits each, as long as the times rise.
func TestFillIsSamples(t *testing.T) {
	seen := map[int]int{}
	parts(func(c chain, from, to int) {
		if to < 2 || to == from {
			return
		}
		list, text := c.part(from, to)
		for place := range 8 {
			tail := (8 - (place+len(text))%8) % 8
			s, more := c.at(to), list
			left, end := tail, error(api.ErrShort)
			for ; left >= 2; left -= 2 {
				x := sample(s.T+s.D, s.V+s.E)
				if x.T <= s.T {
					end = api.ErrOrder
					break
				}
				s = kinds.After(c.kind, s, x, s.X)
				more = append(slices.Clone(more), x)
				hold(t, c.kind, pads(place)[place%3], text+zeros(tail), c.at(from), len(more), answer{more, s, left - 2, nil})
				seen[left]++
			}
			hold(t, c.kind, pads(place)[place%3], text+zeros(tail), c.at(from), len(more)+1, answer{more, s, left, end})
		}
	})
	for left := 2; left < 8; left++ {
		if seen[left] < 10 {
			t.Errorf("%d bits left only %d times", left, seen[left])
		}
	}
}

// shapes is how many shapes there are: one of six steps of T's step, and one of twelve steps of V.
const shapes = 6 * 12

// shaped tells a state, and the sample behind it with codes of a shape (0 up to shapes); by Xor a window is there, or none.
func shaped(kind, shape int, windowed bool) (kinds.State, api.Sample) {
	list := []api.Sample{sample(0, 0), sample(1000, 0x00ffffffffff0000)}
	if windowed {
		list = append(list, sample(2000, 0x00ffffffffff0000^0xff<<16))
	}
	_, behind := codesOf(kind, kinds.State{}, list)
	s := behind[len(behind)-1]
	if !windowed {
		s.X.Lead, s.X.Len = 0, 0
	}
	times := []int64{0, -1, 100, -300, 2047, 1 << 40}
	values := []uint64{0, 3, 101, 2047, 1 << 30, half, all, 5 << 61, 0xff << 16, 0xf << 18, 1 << 63, half | 1}
	return s, sample(s.T+1000+times[shape%6], s.V+s.E+values[shape/6])
}

// Codes of each length and each kind, at each place inside a byte, cut off at each of their bits.
func TestEachShapeAtEachPlace(t *testing.T) {
	widths, heads := map[int]bool{}, map[string]int{}
	for shape := range shapes {
		for _, kind := range bothKinds() {
			for _, windowed := range []bool{false, true} {
				s, x := shaped(kind, shape, windowed)
				codes, behind := codesOf(kind, s, []api.Sample{x})
				code := codes[0]
				widths[len(code)] = true
				heads[headOf(kind, code)]++
				for place := range 16 {
					tail := (8-(place+len(code))%8)%8 + 8*(shape%3)
					hold(t, kind, pads(place)[shape%3], code+pads(tail)[place%3], s, 1, answer{[]api.Sample{x}, behind[0], tail, nil})
				}
				for cut := range code {
					for i, before := range places(cut) {
						n := []int{1, 2, 32, math.MaxInt}[i%4]
						hold(t, kind, before, code[:cut], s, n, answer{nil, s, 0, api.ErrShort})
					}
				}
			}
		}
	}
	if len(widths) < 30 || len(heads) != 5*3+5*5 {
		t.Errorf("only %v, %v", widths, heads)
	}
}

// headOf tells what both parts of a sample's code begin with, behind its kind.
func headOf(kind int, code string) string {
	rest, at := cutHead(code)
	if kind == api.Ints {
		_, v := cutHead(rest)
		return "2 " + at + " " + v
	}
	if rest[0] == '0' {
		return "1 " + at + " 0"
	}
	return "1 " + at + " " + rest[:2]
}

// cutHead tells what is behind a code of layer 5, and what that begins with.
func cutHead(code string) (string, string) {
	for _, c := range []struct {
		head string
		body int
	}{{"0", 0}, {"10", 7}, {"110", 9}, {"1110", 12}, {"1111", 64}} {
		if rest, is := strings.CutPrefix(code, c.head); is {
			return rest[c.body:], c.head
		}
	}
	panic(code)
}

// Bits that are cut off anywhere tell the samples that are there as a whole, or as many as are asked for.
func TestCutOffAnywhere(t *testing.T) {
	for start := range uint64(30) {
		list := walk(start, 30)
		for _, kind := range bothKinds() {
			codes, behind := codesOf(kind, kinds.State{}, list)
			text := strings.Join(codes, "")
			there, end := 0, 0
			for cut := range len(text) {
				if end+len(codes[there]) == cut {
					end = cut
					there++
				}
				s := kinds.State{}
				if there > 0 {
					s = behind[there-1]
				}
				before := places(cut)[cut%9]
				hold(t, kind, before, text[:cut], kinds.State{}, there+1+cut%3, answer{list[:there], s, 0, api.ErrShort})
				hold(t, kind, before, text[:cut], kinds.State{}, there, answer{list[:there], s, cut - end, nil})
			}
		}
	}
}

// part is a way in which one part of a sample's bits may be behind a state, and its error.
type part struct {
	code string
	err  error
	ends bool // the bits end there
}

// timeParts tells codes of T behind 20, D being 10.
func timeParts() []part {
	list := []part{
		{"0", nil, false},
		{"10 1110111", nil, false},
		{"110 011111111", nil, false},
		{"1110 011111111111", nil, false},
		{"1111 0" + zeros(51) + "100000000000", nil, false},
		{"10 1110110", api.ErrOrder, false},
		{"10 1000000", api.ErrOrder, false},
		{"110 100000000", api.ErrOrder, false},
		{"1110 100000000000", api.ErrOrder, false},
		{"1111 1" + zeros(63), api.ErrOrder, false},
		{"1111 0" + ones(63), api.ErrOrder, false},
	}
	return append(list, badCodes()...)
}

// badCodes tells bits of layer 5 that are the code of no number, and codes that are cut off.
func badCodes() []part {
	var list []part
	for _, code := range []string{
		"10 0000000",
		"110 000000000", "110 000111111", "110 111000000", "110 111111111",
		"1110 000000000000", "1110 000011111111", "1110 111100000000", "1110 111111111111",
		"1111 " + zeros(64), "1111 " + zeros(53) + ones(11), "1111 " + ones(53) + zeros(11), "1111 " + ones(64),
	} {
		list = append(list, part{code, api.ErrForm, false})
	}
	for _, code := range []string{
		"", "1", "11", "111", "10", "10 000000", "110", "110 00000000", "110 11111111",
		"1110", "1110 00000000000", "1111", "1111 " + ones(63), "1111 " + zeros(63),
	} {
		list = append(list, part{code, api.ErrShort, true})
	}
	return list
}

// valueParts tells codes of V behind 5, E being 0; by Xor behind a window of 20 bits, 40 ahead of it, or behind none.
func valueParts(kind int, windowed bool) []part {
	if kind == api.Ints {
		return append([]part{{"0", nil, false}, {"10 0000001", nil, false}, {"10 1111111", nil, false}, {"1111 1" + zeros(63), nil, false}}, badCodes()...)
	}
	list := []part{
		{"0", nil, false},
		{"11 111111 000000 1", nil, false},
		{"11 000000 000000 1", nil, false},
		{"11 000000 111111 1" + zeros(62) + "1", nil, false},
		{"11 100111 000000 1", nil, false},
		{"11 100111 010100 1" + zeros(19) + "1", nil, false},
		{"11 111111 000001", api.ErrForm, false},
		{"11 000001 111111", api.ErrForm, false},
		{"11 111111 111111", api.ErrForm, false},
		{"11 100000 100000", api.ErrForm, false},
		{"11 111111 000000 0", api.ErrForm, false},
		{"11 000000 000000 0", api.ErrForm, false},
		{"11 000000 000001 01", api.ErrForm, false},
		{"11 000000 000001 10", api.ErrForm, false},
		{"11 000000 000001 00", api.ErrForm, false},
		{"11 100111 000001 10", api.ErrForm, false},
		{"11 000000 111111 " + zeros(64), api.ErrForm, false},
		{"11 000000 111111 0" + ones(63), api.ErrForm, false},
		{"11 000000 111111 " + ones(63) + "0", api.ErrForm, false},
		{"", api.ErrShort, true},
		{"1", api.ErrShort, true},
		{"11", api.ErrShort, true},
		{"11 111111", api.ErrShort, true},
		{"11 111111 00000", api.ErrShort, true},
		{"11 111111 000000", api.ErrShort, true},
		{"11 000000 000001 0", api.ErrShort, true},
		{"11 000000 111111 " + ones(63), api.ErrShort, true},
		{"11 000000 111111 " + zeros(63), api.ErrShort, true},
	}
	if !windowed {
		list = append(list, part{"11 101000 010011 1" + zeros(18) + "1", nil, false})
		return append(list, part{"10", api.ErrForm, false}, part{"10 " + ones(20), api.ErrForm, false})
	}
	return append(list, []part{
		{"10 1" + zeros(19), nil, false},
		{"10 " + ones(20), nil, false},
		{"10 " + zeros(19) + "1", nil, false},
		{"10 " + zeros(20), api.ErrForm, false},
		// All these bits are in the window: its own code is as long as the second one's, and as that of the last one.
		{"11 101000 010011 1" + zeros(18) + "1", api.ErrForm, false},
		{"11 101010 000111 10000001", api.ErrForm, false},
		{"11 101100 000000 1", api.ErrForm, false},
		{"11 101000 000111 11111111", api.ErrForm, false},
		{"11 101000 010011 " + zeros(20), api.ErrForm, false},
		{"10", api.ErrShort, true},
		{"10 " + ones(19), api.ErrShort, true},
		{"10 " + zeros(19), api.ErrShort, true},
	}...)
}

// mustBe tells the one error of two parts by the words: the first of both, but ErrOrder behind them.
func mustBe(at, value part) error {
	if at.err != nil && at.err != error(api.ErrOrder) {
		return at.err
	}
	if value.err != nil {
		return value.err
	}
	return at.err
}

// Each way in which T's code may be, with each in which V's may be: the first error, with none; or a sample. With one ahead, too, and one more asked for.
func TestTwoParts(t *testing.T) {
	seen := map[error]int{}
	for _, kind := range bothKinds() {
		for _, windowed := range []bool{false, true} {
			s := byInts(3, 20, 10, 5, 0)
			if kind == api.Xor {
				s = byXor(3, 20, 10, 5, 0, 0)
			}
			if kind == api.Xor && windowed {
				s.X.Lead, s.X.Len = 40, 20
			}
			for _, at := range timeParts() {
				for _, value := range valueParts(kind, windowed) {
					if at.ends && value.code != "" {
						continue
					}
					holdParts(t, kind, s, plain(at.code+value.code), at.ends || value.ends, mustBe(at, value))
					seen[mustBe(at, value)]++
				}
			}
		}
	}
	for _, err := range []error{nil, api.ErrShort, api.ErrForm, api.ErrOrder} {
		if seen[err] < 50 {
			t.Errorf("%v: only %d", err, seen[err])
		}
	}
}

// holdParts holds what Next tells of bits behind 20, D being 10; ends says whether nothing may stand behind them.
func holdParts(t *testing.T, kind int, s kinds.State, code string, ends bool, wantErr error) {
	t.Helper()
	tails := []string{""}
	if !ends {
		tails = []string{"", ones(7), zeros(61), ones(200)}
	}
	// A sample ahead leaves all but the number and T as it was.
	ahead := s
	ahead.N, ahead.T = s.N-1, s.T-s.D
	list := []api.Sample{sample(s.T, s.V)}
	for i, tail := range tails {
		for _, before := range places(len(code) + len(tail)) {
			want := holdTold(t, kind, before, code+tail, s, 1)
			if want.err != wantErr || (wantErr == nil) != (want.left == len(tail) && len(want.list) == 1) {
				t.Fatalf("%d, %s: %s; want %v", kind, code, want.short(), wantErr)
			}
		}
		for _, before := range places(2 + len(code) + len(tail))[i : i+3] {
			if wantErr != nil {
				hold(t, kind, before, "00"+code+tail, ahead, 2+i, answer{list, s, 0, wantErr})
				hold(t, kind, before, "00"+code+tail, ahead, 1, answer{list, s, len(code) + len(tail), nil})
			} else {
				holdTold(t, kind, before, "00"+code+tail, ahead, 2+i)
			}
		}
	}
}

// Of a first sample there is just one error, whatever its bits are.
func TestFirstSampleCutOff(t *testing.T) {
	for cut := range 128 {
		for _, ahead := range pads(cut) {
			for i, before := range places(cut) {
				n := []int{1, 2, 31, 32, 33, math.MaxInt}[(i+cut)%6]
				for _, kind := range bothKinds() {
					hold(t, kind, before, ahead, kinds.State{}, n, answer{nil, kinds.State{}, 0, api.ErrShort})
				}
			}
		}
	}
}

// Times that stand, or go back, and those that don't, behind states at whose ends the time goes around.
func TestOrderWhereTimesGoAround(t *testing.T) {
	for _, c := range []struct {
		n    int
		t, d int64
		code string
		want int64 // the time behind, or the last one, if it doesn't rise
	}{
		{1, 100, 0, "0", 100},
		{1, 100, 0, "10 1111111", 100},
		{1, 100, 0, "10 0000001", 101},
		{2, 100, 5, "10 1111011", 100},
		{2, 100, 5, "10 1111100", 101},
		{2, 100, 5, "10 1111010", 100},
		{2, greatest - 4, 4, "0", greatest},
		{2, greatest - 4, 4, "10 0000001", greatest - 4},
		{2, greatest - 4, 4, "1111 0" + ones(63), greatest - 4},
		{2, -1, greatest, "0", greatest - 1},
		{2, -1, greatest, "10 0000001", greatest},
		{2, -1, greatest, "10 0000010", -1},
		{2, greatest, -1, "0", greatest},
		{2, greatest, -1, "10 0000001", greatest},
		{2, greatest, -1, "10 0000010", greatest},
		{2, least + 1, 1, "10 1111101", greatest},
		{2, least + 1, 1, "10 1111110", least + 1},
		{1, least, 0, "10 1111111", greatest},
		{1, least, 0, "0", least},
		{1, least, 0, "1111 1" + zeros(63), 0},
		{1, 0, 0, "1111 1" + zeros(63), 0},
		{1, -1, 0, "1111 1" + zeros(63), greatest},
		{2, 0, least, "0", 0},
		{2, 0, least, "10 1111111", greatest},
		{2, 0, least, "10 0000001", 0},
	} {
		for _, kind := range bothKinds() {
			s, behind := byXor(c.n, c.t, c.d, 7, 0, 0), byXor(c.n+1, c.want, c.want-c.t, 7, 0, 0)
			if kind == api.Ints {
				s, behind = byInts(c.n, c.t, c.d, 7, 0), byInts(c.n+1, c.want, c.want-c.t, 7, 0)
			}
			code := plain(c.code + "0")
			for _, before := range places(len(code)) {
				if c.want == c.t {
					hold(t, kind, before, code, s, 1, answer{nil, s, 0, api.ErrOrder})
					continue
				}
				hold(t, kind, before, code, s, 1, answer{[]api.Sample{sample(c.want, 7)}, behind, 0, nil})
			}
		}
	}
}

// The error is the api's own value: one that is only like it, or wraps it, is another one.
func TestErrorsAreTheCodesThemselves(t *testing.T) {
	x, n := byXor(1, 100, 0, 7, 0, 0), byInts(1, 100, 0, 7, 0)
	for _, c := range []struct {
		kind  int
		s     kinds.State
		ahead string
		want  api.Code
	}{
		{0, x, "", api.ErrKind},
		{3, kinds.State{}, zeros(128), api.ErrKind},
		{api.Xor, kinds.State{}, zeros(120), api.ErrShort},
		{api.Ints, kinds.State{}, ones(56), api.ErrShort},
		{api.Xor, x, "", api.ErrShort},
		{api.Ints, n, "10000000", api.ErrShort},
		{api.Xor, x, "100000001", api.ErrShort},
		{api.Xor, x, "1000000011", api.ErrShort},
		{api.Xor, x, "1000000011111111", api.ErrShort},
		{api.Xor, x, "10000000111" + zeros(12), api.ErrShort},
		{api.Ints, n, "1000000011111111", api.ErrShort},
		{api.Xor, x, "1000000000000000", api.ErrForm},
		{api.Ints, n, "1000000000000000", api.ErrForm},
		{api.Xor, x, "10000000110", api.ErrForm},
		{api.Xor, x, "10000000111" + ones(12), api.ErrForm},
		{api.Xor, x, "10000000111" + zeros(13), api.ErrForm},
		{api.Ints, n, "100000001100000000", api.ErrForm},
		{api.Xor, x, "00", api.ErrOrder},
		{api.Ints, n, "00", api.ErrOrder},
	} {
		for _, before := range places(len(c.ahead)) {
			_, _, err := batch.Next(c.kind, standing(t, before, c.ahead), c.s, 1)
			if code, ok := err.(api.Code); !ok || code != c.want {
				t.Errorf("%d, %v, %s: %#v", c.kind, c.s, c.ahead, err)
			}
		}
	}
}

// In each state, what 16 bits may be: P11.3.
func TestEveryTwoBytes(t *testing.T) {
	seen := map[error]int{}
	for _, kind := range bothKinds() {
		for k, s := range states(kind)[1:] {
			for i := k % 17; i < 1<<16; i += 17 {
				seen[holdTold(t, kind, "", fmt.Sprintf("%016b", i), s, 1+i%9).err]++
			}
		}
	}
	for _, err := range []error{nil, api.ErrShort, api.ErrForm, api.ErrOrder} {
		if seen[err] < 1000 {
			t.Errorf("%v: only %d", err, seen[err])
		}
	}
}

// Of bits of which one is turned, Next tells what layer 8 tells: P11.3.
func TestEachBitTurned(t *testing.T) {
	seen := map[error]int{}
	for start := range uint64(12) {
		list := walk(start, 7)
		for _, kind := range bothKinds() {
			codes, _ := codesOf(kind, kinds.State{}, list)
			text := []byte(strings.Join(codes, ""))
			for i := range text {
				text[i] ^= 1
				for n := 5; n < 9; n++ {
					before := places(len(text))[(i+n)%9]
					seen[holdTold(t, kind, before, string(text), kinds.State{}, n).err]++
				}
				text[i] ^= 1
			}
		}
	}
	for _, err := range []error{nil, api.ErrShort, api.ErrForm, api.ErrOrder} {
		if seen[err] < 100 {
			t.Errorf("%v only %d times", err, seen[err])
		}
	}
}

// Of any bits, from any place on, in any state, Next tells what layer 8 tells: P11.3.
func TestAnyBits(t *testing.T) {
	seen, most := map[error]int{}, 0
	for _, kind := range bothKinds() {
		list := states(kind)
		for start := range uint64(4000) {
			from := mixer(start)
			size := int(from() % 300)
			text := []byte(mixedText(start+5, size))
			for i, c := range mixedText(start+6, size) {
				// Few 1s make long rows of samples.
				if start%3 > 0 && c == '0' || start%3 > 1 && i%5 > 0 {
					text[i] = '0'
				}
			}
			ahead := string(text)
			n := int(from() % 50)
			want := holdTold(t, kind, places(size)[from()%9], ahead, list[from()%uint64(len(list))], n)
			holdTold(t, kind, places(size)[from()%9], ahead, kinds.State{}, n)
			seen[want.err]++
			most = max(most, len(want.list))
		}
	}
	for _, err := range []error{nil, api.ErrShort, api.ErrForm, api.ErrOrder} {
		if seen[err] < 300 {
			t.Errorf("%v only %d times", err, seen[err])
		}
	}
	if most != 32 {
		t.Errorf("%d samples at the most", most)
	}
}

// What layer 9 wrote is told, call behind call, as layer 10 tells it.
func TestReadsWhatIsWritten(t *testing.T) {
	for start := range uint64(100) {
		want := walk(start, 1+int(start)*3)
		for _, kind := range bothKinds() {
			b, err := chunk.Encode(kind, want)
			if err != nil {
				t.Fatal(err)
			}
			r := fill.New(b)
			var s kinds.State
			var list []api.Sample
			for len(list) < len(want) {
				some, behind, err := batch.Next(kind, r, s, len(want)-len(list))
				if err != nil || len(some) != min(32, len(want)-len(list)) {
					t.Fatalf("%d, %d, behind %d: %d, %v", start, kind, len(list), len(some), err)
				}
				list, s = append(list, some...), behind
			}
			slowly, err := slow.Decode(kind, b, len(want))
			if !slices.Equal(list, want) || !slices.Equal(list, slowly) || err != nil || r.Left() >= 8 {
				t.Fatalf("%d, %d: other samples, or %d left, %v", start, kind, r.Left(), err)
			}
		}
	}
}

// The bytes under the reader stand as they were, and those around them.
func TestChangesNoBytes(t *testing.T) {
	for start := range uint64(60) {
		for _, kind := range bothKinds() {
			codes, _ := codesOf(kind, kinds.State{}, walk(start, 40))
			b := made(strings.Join(codes, ""))
			if start%3 == 0 {
				b[len(b)/2] ^= 0x5a
			}
			for _, room := range []byte{0, 0x5a, 255} {
				memory := append(bytes.Repeat([]byte{room}, 9), b...)
				memory = append(memory, bytes.Repeat([]byte{room}, 20)...)
				before := bytes.Clone(memory)
				r := fill.New(memory[9 : 9+len(b)])
				var s kinds.State
				for _, n := range []int{0, 1, 3, 0, -1, 32, 40, 9, 1} {
					_, s, _ = batch.Next(kind, r, s, n)
					_, _, _ = batch.Next(kind+2, r, s, n)
					// Held against it behind each call: two changes may undo each other.
					if !bytes.Equal(memory, before) {
						t.Fatalf("%d, %d, %d: other bytes", start, kind, n)
					}
				}
			}
		}
	}
}

// overwrite changes every sample of a list's memory, that behind its end, too.
func overwrite(list []api.Sample) {
	list = list[:cap(list)]
	for i := range list {
		list[i] = sample(^list[i].T, ^list[i].V)
	}
}

// A sample that is changed in what was told changes no later answer, and none that was told.
func TestTellsNewMemory(t *testing.T) {
	for start := range uint64(40) {
		list := walk(start, 100)
		for _, kind := range bothKinds() {
			codes, states := codesOf(kind, kinds.State{}, list)
			text := strings.Join(codes, "")
			r, other := standing(t, "", text+zeros((8-len(text)%8)%8)), standing(t, "", text+zeros((8-len(text)%8)%8))
			var s kinds.State
			for done := 0; done < len(list); {
				n := min(1+int(start), 32, len(list)-done)
				one, behind, err := batch.Next(kind, r, s, n)
				two, _, otherErr := batch.Next(kind, other, s, n)
				if err != nil || otherErr != nil || behind != states[done+n-1] {
					t.Fatal(err, otherErr, behind)
				}
				overwrite(one)
				if !slices.Equal(two, list[done:done+n]) {
					t.Fatalf("%d, %d: two answers share memory", start, kind)
				}
				overwrite(two)
				s, done = behind, done+n
			}
		}
	}
}

// What was told stays as it was, whatever is asked behind it, also of the same reader, and with errors, too.
func TestWhatWasToldStays(t *testing.T) {
	list := walk(4, 90)
	for _, kind := range bothKinds() {
		codes, _ := codesOf(kind, kinds.State{}, list)
		text := strings.Join(codes, "")
		r := standing(t, places(len(text))[2], text)
		var s kinds.State
		var tolds [][]api.Sample
		for _, n := range []int{5, 0, 32, 1, 32, 1, 30, 5} {
			var some []api.Sample
			some, s, _ = batch.Next(kind, r, s, n)
			tolds = append(tolds, some)
		}
		if got := slices.Concat(tolds...); !slices.Equal(got, list) {
			t.Errorf("%d: %d samples from %v", kind, len(got), got[:4])
		}
		for i, some := range tolds {
			overwrite(some)
			if rest := slices.Concat(tolds[i+1:]...); !slices.Equal(rest, list[len(list)-len(rest):]) {
				t.Errorf("%d: the %d-th shares memory with a later one", kind, i)
			}
		}
	}
}

// Each call hangs on what it is given alone: readers that are asked in turn don't disturb each other, and one state may be used again.
func TestNothingIsKept(t *testing.T) {
	x, n := byXor(1, 100, 0, 7, 0, 0), byInts(1, 100, 0, 7, 0)
	for range 3 {
		hold(t, api.Xor, "", "1000000010000000", x, 1, answer{[]api.Sample{sample(101, 7)}, byXor(2, 101, 1, 7, 0, 0), 6, nil})
		hold(t, api.Ints, "", "1000000010000000", n, 1, answer{[]api.Sample{sample(101, 7)}, byInts(2, 101, 1, 7, 0), 6, nil})
		hold(t, api.Xor, "", "1000000011000000", x, 1, answer{nil, x, 0, api.ErrForm})
		hold(t, api.Ints, "", "1000000011000000", n, 1, answer{nil, n, 0, api.ErrShort})
		hold(t, api.Ints, "", "0000000011000000", n, 1, answer{nil, n, 0, api.ErrOrder})
		hold(t, 3, "", "0000000011000000", n, 1, answer{nil, n, 16, api.ErrKind})
	}
	lists := [][]api.Sample{walk(1, 60), walk(2, 60), walk(3, 60), walk(4, 60)}
	readers, at := make([]*fill.Reader, 4), make([]kinds.State, 4)
	for i, list := range lists {
		codes, _ := codesOf(1+i%2, kinds.State{}, list)
		text := strings.Join(codes, "")
		readers[i] = standing(t, places(len(text))[i], text)
	}
	for from := 0; from < 60; from += 5 {
		for i, list := range lists {
			got := next(1+i%2, readers[i], at[i], 5)
			if !slices.Equal(got.list, list[from:from+5]) || got.err != nil {
				t.Fatal(i, from, got.short())
			}
			at[i] = got.next
		}
	}
}
