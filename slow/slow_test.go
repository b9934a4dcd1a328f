package slow_test

import (
	"bytes"
	"fmt"
	"math"
	"slices"
	"strings"
	"testing"

	"gaiter/api"
	"gaiter/bits"
	"gaiter/chunk"
	"gaiter/kinds"
	"gaiter/slow"
)

// The tests hold Decode against bits written out as 0s and 1s, and, of any bytes, against layer 8's Get, asked of each sample at another place than Decode asks it.

const (
	least    = math.MinInt64
	greatest = math.MaxInt64
	all      = uint64(math.MaxUint64)
	half     = uint64(1) << 63
)

// row is a sample, and its bits behind those ahead of it, written out.
type row struct {
	x    api.Sample
	code string
}

// chain is samples of one kind, one behind the other.
type chain struct {
	kind int
	rows []row
}

func sample(t int64, v uint64) api.Sample { return api.Sample{T: t, V: v} }

func zeros(n int) string { return strings.Repeat("0", n) }

func ones(n int) string { return strings.Repeat("1", n) }

// binary tells a number's 64 bits.
func binary(v uint64) string { return fmt.Sprintf("%064b", v) }

// head is a chain's first row.
func head(t int64, v uint64) row { return row{sample(t, v), binary(uint64(t)) + binary(v)} }

// plain tells a text without what only parts it.
func plain(s string) string { return strings.NewReplacer(" ", "", ",", "").Replace(s) }

// made tells a text's bytes: 0s fill up the last one, and no byte is without a bit of the text.
func made(s string) []byte {
	b := make([]byte, (len(s)+7)/8)
	for i, c := range s {
		if c == '1' {
			b[i/8] |= 128 >> (i % 8)
		}
	}
	return b
}

// textOf tells the text of bytes.
func textOf(b []byte) string {
	var s strings.Builder
	for _, c := range b {
		fmt.Fprintf(&s, "%08b", c)
	}
	return s.String()
}

// chains tells samples written out: their beginnings end at each place inside a byte, and T and V go around.
func chains() []chain {
	return []chain{
		{api.Xor, []row{
			head(100, 7),
			{sample(101, 7), "10 0000001, 0"},
			{sample(102, 7), "0, 0"},
			{sample(103, 6), "0, 11 111111 000000 1"},
			{sample(104, 7), "0, 10 1"},
			{sample(204, 7), "110 001100011, 0"},
			{sample(304, 7), "0, 0"},
			{sample(404, 5), "0, 11 111110 000000 1"},
			{sample(405, 5), "110 110011101, 0"},
			{sample(406, 61), "0, 11 111010 000010 111"},
			{sample(407, 21), "0, 10 101"},
			{sample(408, 5), "0, 10 010"},
			{sample(3317, half|5), "1111 " + zeros(52) + "101101011100, 11 000000 000000 1"},
			{sample(3318, half|5), "1111 " + ones(52) + "010010100100, 0"},
			{sample(5367, 5), "1111 " + zeros(52) + "100000000000, 10 1"},
			{sample(5368, 4), "1110 100000000000, 11 111111 000000 1"},
			{sample(6393, 4), "1110 010000000000, 0"},
			{sample(7418, 4), "0, 0"},
			{sample(8443, 4), "0, 0"},
			{sample(9468, 4), "0, 0"},
		}},
		{api.Ints, []row{
			head(10, 5),
			{sample(20, 8), "10 0001010, 10 0000011"},
			{sample(30, 11), "0, 0"},
			{sample(40, 11), "0, 10 1111101"},
			{sample(50, 11), "0, 0"},
			{sample(60, 111), "0, 110 001100100"},
			{sample(70, 211), "0, 0"},
			{sample(80, 311), "0, 0"},
			{sample(81, 311), "10 1110111, 110 110011100"},
			{sample(145, 311), "10 0111111, 0"},
			{sample(146, 312), "10 1000001, 10 0000001"},
			{sample(3055, 312), "1111 " + zeros(52) + "101101011100, 10 1111111"},
			{sample(3056, 1312), "1111 " + ones(52) + "010010100100, 1110 001111101000"},
		}},
		{api.Xor, []row{
			head(least, 0),
			{sample(greatest, all), "10 1111111, 11 000000 111111 " + ones(64)},
		}},
		{api.Xor, []row{
			head(least, all),
			{sample(-1, all), "1111 0" + ones(63) + ", 0"},
			{sample(greatest, all-1), "10 0000001, 11 111111 000000 1"},
		}},
		{api.Ints, []row{
			head(least, all),
			{sample(greatest, half-1), "10 1111111, 1111 1" + zeros(63)},
		}},
		{api.Ints, []row{
			head(least, 0),
			{sample(0, half), "1111 1" + zeros(63) + ", 1111 1" + zeros(63)},
			{sample(1, half+1), "1111 1" + zeros(62) + "1, 1111 1" + zeros(62) + "1"},
			{sample(greatest, half), "1111 0" + ones(61) + "01, 10 1111110"},
		}},
		{api.Ints, []row{
			head(-1, 0),
			{sample(0, all), "10 0000001, 10 1111111"},
			{sample(1, 0), "0, 10 0000010"},
			{sample(2, 1), "0, 0"},
		}},
		// Behind these the time can't go on as it did.
		{api.Xor, []row{head(greatest-10, 3), {sample(greatest, 3), "10 0001010, 0"}}},
		{api.Ints, []row{head(greatest-10, 3), {sample(greatest, 3), "10 0001010, 0"}}},
		{api.Xor, []row{head(least, 9), {sample(0, 9), "1111 1" + zeros(63) + ", 0"}}},
	}
}

// list tells a chain's samples, and the text of all their bits.
func (c chain) list() ([]api.Sample, string) {
	var list []api.Sample
	var text strings.Builder
	for _, r := range c.rows {
		list = append(list, r.x)
		text.WriteString(plain(r.code))
	}
	return list, text.String()
}

// beginnings tells each chain's beginnings, all their bits written out.
func beginnings(do func(kind int, list []api.Sample, text string)) {
	for _, c := range chains() {
		for n := range c.rows {
			list, text := chain{c.kind, c.rows[:n+1]}.list()
			do(c.kind, list, text)
		}
	}
}

func bothKinds() []int { return []int{api.Xor, api.Ints} }

// noKinds tells numbers that are no kind; some of them would be one, if bits of them were lost.
func noKinds() []int {
	list := []int{0, 3, 4, 5, 7, 10, -1, -2, -3, 257, 258, -255, -254, 1<<16 + 1, 1<<16 + 2, 1<<32 + 1, 1<<32 + 2}
	return append(list, math.MinInt, math.MinInt+1, math.MinInt+2, math.MaxInt, math.MaxInt-1, math.MaxInt32, math.MinInt32)
}

// noCounts tells numbers that no samples may be; some of them might be one, if bits of them were lost.
func noCounts() []int {
	list := []int{0, -1, -2, -3, -100, -65534, -65535, -65536, -65537, 65536, 65537, 65538, 2 * 65536, 2*65536 + 1, 1<<24 + 1, 1<<31 + 1, 1 << 32, 1<<32 + 1, 1<<32 + 3, 1 - 1<<32}
	return append(list, math.MinInt, math.MinInt+1, math.MinInt+3, math.MaxInt, math.MaxInt-1, math.MaxInt32, math.MinInt32, math.MinInt32+1)
}

// short tells a list as far as a test's output needs it.
func short(list []api.Sample) string {
	return fmt.Sprintf("%d samples from %v", len(list), list[:min(4, len(list))])
}

// hold fails the test, if Decode tells anything but these samples and this error, the value itself.
func hold(t *testing.T, kind int, b []byte, n int, want []api.Sample, wantErr error) {
	t.Helper()
	list, err := slow.Decode(kind, b, n)
	if err != wantErr || !slices.Equal(list, want) {
		t.Fatalf("Decode(%d, %d bytes from %x, %d): %s, %v; want %s, %v", kind, len(b), b[:min(40, len(b))], n, short(list), err, short(want), wantErr)
	}
}

// behind tells what the bits behind all samples make of the answer.
func behind(rest string) error {
	if len(rest) >= 8 || strings.Contains(rest, "1") {
		return api.ErrForm
	}
	return nil
}

// told tells what Decode must answer, by the words of P10.1.
func told(kind int, b []byte, n int) ([]api.Sample, error) {
	if n < 1 || n > 65535 {
		return nil, api.ErrArg
	}
	if kind != api.Xor && kind != api.Ints {
		return nil, api.ErrKind
	}
	var list []api.Sample
	var s kinds.State
	rest := textOf(b)
	for len(list) < n {
		// Bytes end nowhere else than at a byte's end: so the bits are moved there.
		pad := ones((8 - len(rest)%8) % 8)
		x, next, size, err := kinds.Get(kind, s, made(pad+rest), len(pad))
		if err != nil {
			return list, err
		}
		list, s, rest = append(list, x), next, rest[size:]
	}
	return list, behind(rest)
}

// holdTold fails the test, if Decode answers otherwise than it must; and it tells whether there was no error.
func holdTold(t *testing.T, kind int, b []byte, n int) bool {
	t.Helper()
	list, err := told(kind, b, n)
	hold(t, kind, b, n, list, err)
	return err == nil
}

// mixer tells numbers that hang on a start alone, the lowest bits as mixed as the highest ones.
func mixer(start uint64) func() uint64 {
	v := start
	return func() uint64 {
		v = v*6364136223846793005 + 1442695040888963407
		x := v
		x ^= x >> 32
		x *= 0xd6e8feb86659fd93
		return x ^ x>>32
	}
}

// walk tells n samples of rising times: steps of several sizes, as far as n of them have room, and values that stay, go on alike, or jump.
func walk(start uint64, n int) []api.Sample {
	next := mixer(start)
	room := all / uint64(n)
	x := sample(least+int64(next()%9), next())
	d, e := uint64(1), uint64(0)
	list := make([]api.Sample, n)
	for i := range list {
		list[i] = x
		switch next() % 6 {
		case 0, 1, 2: // as before
		case 3:
			d = next() % 9
		case 4:
			d += next() % 600
		default:
			d = next() >> (next() % 64)
		}
		switch next() % 8 {
		case 0, 1, 2: // as before
		case 3:
			e = 0
		case 4:
			e += next()%9 - 4
		case 5:
			e += next()%5000 - 2500
		default:
			e = next() >> (next() % 64) << (next() % 20)
		}
		d = d%(room-9) + 1
		x = sample(x.T+int64(d), x.V+e)
	}
	return list
}

// even tells n samples whose times are 1 apart, all of one value.
func even(n int) []api.Sample {
	list := make([]api.Sample, n)
	for i := range list {
		list[i] = sample(int64(i)-70, 9)
	}
	return list
}

// evenText tells the bits of even's samples.
func evenText(n int) string {
	text := binary(all-69) + binary(9)
	if n > 1 {
		text += "1000000010" + zeros(2*(n-2))
	}
	return text
}

// codesOf tells the text of each sample's bits, by layer 8's words.
func codesOf(t *testing.T, kind int, list []api.Sample) []string {
	t.Helper()
	codes := make([]string, len(list))
	var s kinds.State
	for i, x := range list {
		code, next, err := kinds.Put(kind, s, x)
		if err != nil {
			t.Fatalf("%d, the %d-th of %d, %v: %v", kind, i, len(list), x, err)
		}
		codes[i], s = textOf(code.B)[:code.N], next
	}
	return codes
}

func TestExamples(t *testing.T) {
	hold(t, api.Xor, nil, 1, nil, api.ErrShort)
	hold(t, api.Ints, []byte{}, 1, nil, api.ErrShort)
	first := []byte{1, 0x23, 0x45, 0x67, 0x89, 0xab, 0xcd, 0xef, 0xfe, 0xdc, 0xba, 0x98, 0x76, 0x54, 0x32, 0x10}
	want := []api.Sample{sample(0x0123456789abcdef, 0xfedcba9876543210), sample(0x0123456789abcdf0, 0xfedcba9876543210), sample(0x0123456789abcdf1, 0xfedcba9876543210)}
	for _, kind := range bothKinds() {
		hold(t, kind, first, 1, want[:1], nil)
		hold(t, kind, append(first, 0x80, 0x80), 2, want[:2], nil)
		hold(t, kind, append(first, 0x80, 0x80), 3, want, nil)
	}
}

func TestWrittenOut(t *testing.T) {
	beginnings(func(kind int, list []api.Sample, text string) {
		hold(t, kind, made(text), len(list), list, nil)
	})
}

// The lists that are written out end at each place inside a byte, and at its end; else their tests would be worth less.
func TestWrittenOutEndsAtEachPlace(t *testing.T) {
	ends := map[[2]int]bool{}
	beginnings(func(kind int, _ []api.Sample, text string) {
		ends[[2]int{kind, len(text) % 8}] = true
	})
	if len(ends) != 16 {
		t.Errorf("only %v", ends)
	}
}

// One sample is 16 bytes, whatever it is.
func TestOneSample(t *testing.T) {
	ends := []uint64{0, 1, 2, 255, all, all - 1, half, half - 1, half + 1, 1 << 32, 0x0123456789abcdef}
	for _, at := range ends {
		for _, v := range ends {
			for _, kind := range bothKinds() {
				hold(t, kind, made(binary(at)+binary(v)), 1, []api.Sample{sample(int64(at), v)}, nil)
			}
		}
	}
}

// What is asked for is told ahead of all: the bytes, and the kind, may be wrong, too.
func TestOfNoCount(t *testing.T) {
	kindsToo := append(noKinds(), bothKinds()...)
	for _, n := range noCounts() {
		for _, kind := range kindsToo {
			hold(t, kind, nil, n, nil, api.ErrArg)
			hold(t, kind, []byte{}, n, nil, api.ErrArg)
			hold(t, kind, make([]byte, 15), n, nil, api.ErrArg)
			hold(t, kind, make([]byte, 16), n, nil, api.ErrArg)
			hold(t, kind, made(evenText(5)), n, nil, api.ErrArg)
			hold(t, kind, bytes.Repeat([]byte{255}, 99), n, nil, api.ErrArg)
		}
	}
	// As many samples as are asked for are there, too.
	b := made(evenText(65540))
	for _, n := range []int{65536, 65537, 65538, 65540, 65541} {
		for _, kind := range append(bothKinds(), 0, 3) {
			hold(t, kind, b, n, nil, api.ErrArg)
		}
	}
}

// What is no kind is told ahead of all that the bytes are.
func TestOfNoKind(t *testing.T) {
	for _, kind := range noKinds() {
		for _, n := range []int{1, 2, 3, 5, 300, 65534, 65535} {
			hold(t, kind, nil, n, nil, api.ErrKind)
			hold(t, kind, []byte{}, n, nil, api.ErrKind)
			hold(t, kind, make([]byte, 1), n, nil, api.ErrKind)
			hold(t, kind, make([]byte, 15), n, nil, api.ErrKind)
			hold(t, kind, make([]byte, 16), n, nil, api.ErrKind)
			hold(t, kind, make([]byte, 99), n, nil, api.ErrKind)
			hold(t, kind, bytes.Repeat([]byte{255}, 99), n, nil, api.ErrKind)
			hold(t, kind, made(evenText(5)), n, nil, api.ErrKind)
			hold(t, kind, append(made(evenText(5)), 1), n, nil, api.ErrKind)
		}
	}
}

// Fewer bytes than the first sample has tell none.
func TestOfLessThanTheFirst(t *testing.T) {
	for size := range 16 {
		for _, fill := range []byte{0, 1, 128, 255, 0x5a} {
			for _, n := range []int{1, 2, 3, 65534, 65535} {
				for _, kind := range bothKinds() {
					hold(t, kind, bytes.Repeat([]byte{fill}, size), n, nil, api.ErrShort)
				}
			}
		}
	}
}

// Bits that fill up the last byte are samples, if more are asked for: each has two of them, as long as the times rise.
func TestMoreAreAsked(t *testing.T) {
	seen := map[int]int{}
	beginnings(func(kind int, list []api.Sample, text string) {
		b := made(text)
		left := 8*len(b) - len(text)
		var end error = api.ErrShort
		for ; left >= 2; left -= 2 {
			x, ahead := list[len(list)-1], list[len(list)-2]
			next := sample(x.T+x.T-ahead.T, x.V)
			if kind == api.Ints {
				next.V += x.V - ahead.V
			}
			if next.T <= x.T {
				end = api.ErrOrder
				break
			}
			list = append(list, next)
			hold(t, kind, b, len(list), list, nil)
			seen[left]++
		}
		for _, n := range []int{1, 2, 3, 8, 65535 - len(list)} {
			hold(t, kind, b, len(list)+n, list, end)
		}
		if end == api.ErrOrder {
			seen[0]++
		}
	})
	for left := range 8 {
		if left != 1 && seen[left] == 0 {
			t.Errorf("no list with %d bits left", left)
		}
	}
}

// All samples that are asked for are told, however many bits are behind them; these are told as an error, if they don't just fill up a byte.
func TestFewerAreAsked(t *testing.T) {
	seen := map[error]int{}
	for _, c := range chains() {
		list, text := c.list()
		for n := 1; n < len(c.rows); n++ {
			_, front := chain{c.kind, c.rows[:n]}.list()
			want := behind(textOf(made(text))[len(front):])
			hold(t, c.kind, made(text), n, list[:n], want)
			seen[want]++
		}
	}
	for n := 2; n < 40; n++ {
		for asked := 1; asked < n; asked++ {
			want := behind(textOf(made(evenText(n)))[len(evenText(asked)):])
			for _, kind := range bothKinds() {
				hold(t, kind, made(evenText(n)), asked, even(n)[:asked], want)
			}
			seen[want]++
		}
	}
	if seen[nil] < 10 || seen[api.ErrForm] < 10 {
		t.Errorf("only %v", seen)
	}
}

// Each way in which bits fill up the last byte, and each byte behind it.
func TestBitsBehind(t *testing.T) {
	places := map[[2]int]bool{}
	beginnings(func(kind int, list []api.Sample, text string) {
		n := len(list)
		left := (8 - len(text)%8) % 8
		places[[2]int{kind, left}] = true
		for fill := range 1 << left {
			rest := fmt.Sprintf("%08b", fill)[8-left:]
			b := made(text + rest)
			hold(t, kind, b, n, list, behind(rest))
			for _, more := range []byte{0, 1, 2, 64, 128, 255} {
				hold(t, kind, append(b, more), n, list, api.ErrForm)
			}
		}
		b := made(text)
		for more := range 256 {
			hold(t, kind, append(b, byte(more)), n, list, api.ErrForm)
		}
		for _, size := range []int{2, 3, 7, 8, 9, 10, 16, 100, 1 << 13, 1 << 16, 1 << 20} {
			hold(t, kind, append(b, make([]byte, size)...), n, list, api.ErrForm)
		}
	})
	if len(places) != 16 {
		t.Errorf("only %v", places)
	}
}

// shapes is how many shapes there are: one of five steps of T's step, and one of nine steps of V.
const shapes = 5 * 9

// shaped tells samples, the last one with codes of a shape (0 up to shapes): over the places 0 to 7 it begins at each place inside a byte.
func shaped(place, shape int) []api.Sample {
	list := []api.Sample{sample(0, 0), sample(5, 0x00ffffffffff0000)}
	d := int64(5)
	next := func(dd int64, v uint64) {
		d += dd
		list = append(list, sample(list[len(list)-1].T+d, v))
	}
	// Each of these has 13 bits, but for the first one: so it is 5 bits farther inside a byte for each place.
	for range place + 1 {
		next(100, 0x00ffffffffff0000)
	}
	times := []int64{0, -1, 100, 2047, 1 << 40}
	values := []uint64{0, 3, 101, 2047, 1 << 30, half, all, 5 << 61, 0xff << 16}
	next(times[shape%5], 0x00ffffffffff0000+values[shape/5])
	return list
}

// Bytes that are cut off inside a later sample, at each of its bits, tell those ahead of it.
func TestCutOffAtEachPlace(t *testing.T) {
	widths := map[int]bool{}
	for shape := range shapes {
		for _, kind := range bothKinds() {
			cuts := map[int]bool{}
			width := 0
			for place := range 8 {
				list := shaped(place, shape)
				codes := codesOf(t, kind, list)
				text := strings.Join(codes, "")
				ahead := len(list) - 1
				width = len(codes[ahead])
				front := len(text) - width
				for size := (front + 7) / 8; 8*size < len(text); size++ {
					for _, n := range []int{ahead + 1, ahead + 2, 65535} {
						hold(t, kind, made(text)[:size], n, list[:ahead], api.ErrShort)
					}
					hold(t, kind, made(text)[:size], ahead, list[:ahead], behind(text[front:8*size]))
					cuts[8*size-front] = true
				}
				hold(t, kind, made(text), ahead+1, list, nil)
			}
			if len(cuts) != width {
				t.Errorf("%d, shape %d: only %d cuts of %d bits", kind, shape, len(cuts), width)
			}
			widths[width] = true
		}
	}
	if len(widths) < 30 {
		t.Errorf("only %v", widths)
	}
}

// Bytes that are cut off anywhere tell the samples that are there as a whole, or as many as are asked for.
func TestCutOffAnywhere(t *testing.T) {
	for start := range uint64(40) {
		list := walk(start, 30)
		for _, kind := range bothKinds() {
			codes := codesOf(t, kind, list)
			text := strings.Join(codes, "")
			for size := range (len(text) + 7) / 8 {
				b := made(text)[:size]
				there, end := 0, 0
				for end+len(codes[there]) <= 8*size {
					end += len(codes[there])
					there++
				}
				for _, n := range []int{there + 1, 30, 65535} {
					hold(t, kind, b, max(n, there+1), list[:there], api.ErrShort)
				}
				if there > 0 {
					hold(t, kind, b, there, list[:there], behind(text[end:8*size]))
				}
			}
		}
	}
}

// fault is bits that are no sample's behind those ahead.
type fault struct {
	kind  int
	ahead []row
	code  string
	want  api.Code
}

// noOwnCodes tells bits of layer 5 that are the code of no number.
func noOwnCodes() []string {
	return []string{
		"10 0000000",
		"110 000000000", "110 000111111", "110 111000000", "110 111111111",
		"1110 000000000000", "1110 000011111111", "1110 111100000000", "1110 111111111111",
		"1111 " + zeros(64), "1111 " + zeros(53) + ones(11), "1111 " + ones(53) + zeros(11), "1111 " + ones(64),
	}
}

// faults tells faults of both kinds, and of each alone, written out.
func faults() []fault {
	var list []fault
	both := func(code string, want api.Code, ahead ...row) {
		list = append(list, fault{api.Xor, ahead, code, want}, fault{api.Ints, ahead, code, want})
	}
	first, second := head(10, 5), row{sample(20, 5), "10 0001010, 0"}
	// Times that stand, or go back.
	both("0, 0", api.ErrOrder, first)
	both("10 1111111, 0", api.ErrOrder, first)
	both("10 1000000, 0", api.ErrOrder, first)
	both("110 100000000, 0", api.ErrOrder, first)
	both("1110 100000000000, 0", api.ErrOrder, first)
	both("1111 1"+zeros(63)+", 0", api.ErrOrder, first)
	both("1111 0"+ones(63)+", 0", api.ErrOrder, first)
	both("10 1110110, 0", api.ErrOrder, first, second)
	both("10 1110101, 0", api.ErrOrder, first, second)
	both("1111 0"+ones(63)+", 0", api.ErrOrder, first, second)
	both("0, 0", api.ErrOrder, head(least, 5))
	both("0, 0", api.ErrOrder, head(greatest, 5))
	both("10 0000001, 0", api.ErrOrder, head(greatest, 5))
	both("0, 0", api.ErrOrder, head(greatest-10, 5), row{sample(greatest, 5), "10 0001010, 0"})
	both("0, 0", api.ErrOrder, head(least, 5), row{sample(0, 5), "1111 1" + zeros(63) + ", 0"})
	both("10 0000010, 0", api.ErrOrder, head(least, 5), row{sample(-1, 5), "1111 0" + ones(63) + ", 0"})
	// Codes that aren't the number's own: of T ahead of all that V's is; of V ahead of T's order.
	for _, code := range noOwnCodes() {
		both(code, api.ErrForm, first)
		both(code, api.ErrForm, first, second)
		for _, at := range []string{"0", "10 0000001", "10 1110110"} {
			list = append(list, fault{api.Ints, []row{first, second}, at + code, api.ErrForm})
		}
	}
	for _, at := range []string{"0", "10 0000001", "10 1110110"} {
		list = append(list, valueFaults(at, first, second)...)
	}
	return list
}

// valueFaults tells codes of layer 7 that are no value's own, behind a time's code.
func valueFaults(at string, first, second row) []fault {
	var list []fault
	put := func(code string, ahead ...row) {
		list = append(list, fault{api.Xor, ahead, at + code, api.ErrForm})
	}
	window := row{sample(30, 61), "0, 11 111010 000010 111"}
	put("10", first, second)
	put("10 000", first, second, window)
	for _, ahead := range [][]row{{first, second}, {first, second, window}} {
		put("11 000001 111111", ahead...)
		put("11 111111 000001", ahead...)
		put("11 111111 111111", ahead...)
		put("11 000000 000000 0", ahead...)
		put("11 000000 111111 "+zeros(64), ahead...)
		put("11 000000 000001 01", ahead...)
		put("11 000000 000001 10", ahead...)
		put("11 100000 000111 00000001", ahead...)
	}
	// All these bits are in the window.
	put("11 111010 000010 111", first, second, window)
	put("11 111011 000000 1", first, second, window)
	put("11 111010 000000 1", first, second, window)
	return list
}

// The first error is told, with the samples ahead of it and no others, whatever stands behind, and however many are asked for; but none, if no more are asked for than are ahead.
func TestFirstError(t *testing.T) {
	tails := []string{zeros(7), ones(7), zeros(15), ones(15), zeros(200), ones(200), strings.Repeat("1000000010", 30)}
	for _, f := range faults() {
		list, front := chain{f.kind, f.ahead}.list()
		hold(t, f.kind, made(front), len(list), list, nil)
		for _, tail := range tails {
			text := front + plain(f.code) + tail
			// Bytes end nowhere else than at a byte's end: so what is over is cut off the tail.
			text = text[:len(text)/8*8]
			for _, n := range []int{1, 2, 3, 100, 65535 - len(list)} {
				hold(t, f.kind, made(text), len(list)+n, list, f.want)
			}
			for n := 1; n <= len(list); n++ {
				_, asked := chain{f.kind, f.ahead[:n]}.list()
				hold(t, f.kind, made(text), n, list[:n], behind(text[len(asked):]))
			}
		}
	}
}

// The error of T's bits is told ahead of V's, and that V's bits end too early ahead of T's order.
func TestFirstErrorOfASample(t *testing.T) {
	first := chain{0, []row{head(10, 5)}}
	list, front := first.list()
	for _, c := range []struct {
		kind int
		code string
		want api.Code
	}{
		// T stands, or goes back, and V ends too early.
		{api.Xor, "10 1111111, 11 11111", api.ErrShort},
		{api.Ints, "10 1111111, 1111 111", api.ErrShort},
		{api.Xor, "0, 11 00000", api.ErrShort},
		{api.Ints, "0, 1111 000", api.ErrShort},
		// T has no own code, and V ends too early, or has none, either.
		{api.Xor, "10 0000000, 11 11111", api.ErrForm},
		{api.Ints, "10 0000000, 1111 111", api.ErrForm},
		{api.Xor, "10 0000000, 10 00000", api.ErrForm},
		{api.Ints, "110 000000001, 1111", api.ErrForm},
		// T ends too early.
		{api.Xor, "10 000000", api.ErrShort},
		{api.Ints, "110 00000", api.ErrShort},
		{api.Xor, "1111 0000", api.ErrShort},
		{api.Ints, "1110 0000", api.ErrShort},
		{api.Xor, "1111 1111", api.ErrShort},
		{api.Ints, "1111 1111", api.ErrShort},
	} {
		for _, n := range []int{2, 3, 65535} {
			hold(t, c.kind, made(front+plain(c.code)), n, list, c.want)
		}
		hold(t, c.kind, made(front+plain(c.code)), 1, list, api.ErrForm)
	}
}

// A step of 1 is enough, wherever it is.
func TestOfTimesThatRiseBy1(t *testing.T) {
	for _, from := range []int64{least, least + 1, -2, -1, 0, 1, greatest - 2} {
		list := []api.Sample{sample(from, 0), sample(from+1, 0), sample(from+2, 0)}
		for _, kind := range bothKinds() {
			hold(t, kind, append(made(binary(uint64(from))+zeros(64)), 0x80, 0x80), 3, list, nil)
		}
	}
}

// The most samples that may be asked for, of the fewest bits.
func TestTheMostSamples(t *testing.T) {
	list, b := even(65535), made(evenText(65535))
	for _, kind := range bothKinds() {
		hold(t, kind, b, 65535, list, nil)
		hold(t, kind, b, 65534, list[:65534], nil)
		hold(t, kind, b, 65533, list[:65533], api.ErrForm)
		hold(t, kind, append(b, 0), 65535, list, api.ErrForm)
		hold(t, kind, append(b, 0x08), 65535, list, api.ErrForm)
		hold(t, kind, made(evenText(65534)), 65535, list, nil)
		hold(t, kind, made(evenText(65533)), 65535, list[:65533], api.ErrShort)
		hold(t, kind, made(evenText(1<<20)), 65535, list, api.ErrForm)
		mixed := walk(3, 65535)
		code := made(strings.Join(codesOf(t, kind, mixed), ""))
		hold(t, kind, code, 65535, mixed, nil)
		hold(t, kind, code[:len(code)-1], 65535, mixed[:65534], api.ErrShort)
	}
}

// Of all 12 bits behind a first sample, Decode tells what layer 8 tells; and P10.3.
func TestAllBitsBehindTheFirst(t *testing.T) {
	good := 0
	for _, from := range []string{zeros(127) + "1", binary(half|1) + ones(64), binary(half-4) + zeros(64)} {
		for tail := range 1 << 12 {
			b := append(made(from), byte(tail>>4), byte(tail<<4))
			for _, kind := range bothKinds() {
				for _, n := range []int{2, 3, 5, 9} {
					if holdTold(t, kind, b, n) {
						holdBack(t, kind, b, n)
						good++
					}
				}
			}
		}
	}
	if good < 300 {
		t.Errorf("only %d without an error", good)
	}
}

// Of bytes of which one bit is turned, Decode tells what layer 8 tells; and P10.3.
func TestEachBitTurned(t *testing.T) {
	seen := map[error]int{}
	for start := range uint64(12) {
		list := walk(start, 7)
		for _, kind := range bothKinds() {
			b := made(strings.Join(codesOf(t, kind, list), ""))
			for i := range 8 * len(b) {
				b[i/8] ^= 128 >> (i % 8)
				for _, n := range []int{6, 7, 8} {
					holdTold(t, kind, b, n)
				}
				_, err := slow.Decode(kind, b, 7)
				if err == nil {
					holdBack(t, kind, b, 7)
				}
				seen[err]++
				b[i/8] ^= 128 >> (i % 8)
			}
		}
	}
	for _, err := range []error{nil, api.ErrShort, api.ErrForm, api.ErrOrder} {
		if seen[err] < 30 {
			t.Errorf("%v only %d times", err, seen[err])
		}
	}
}

// Of any bytes Decode tells what layer 8 tells.
func TestAnyBytes(t *testing.T) {
	for start := range uint64(3000) {
		next := mixer(start)
		b := make([]byte, next()%40)
		for i := range b {
			b[i] = byte(next() & next())
			if i > 16 && start%3 == 0 {
				b[i] &= byte(next() & next())
			}
		}
		for kind := range 4 {
			for _, n := range []int{-1, 0, 1, 2, 3, 4, 17, 65535, 65536} {
				holdTold(t, kind, b, n)
			}
		}
	}
}

// turn turns every bit of samples' memory, that behind their end, too.
func turn(list []api.Sample) {
	list = list[:cap(list)]
	for i, x := range list {
		list[i] = sample(^x.T, ^x.V)
	}
}

// calls tells arguments of all answers: no error, and each one.
func calls(do func(kind int, b []byte, n int)) {
	beginnings(func(kind int, list []api.Sample, text string) {
		for _, n := range []int{len(list), len(list) + 1, len(list) - 1} {
			do(kind, made(text), n)
		}
		do(kind, append(made(text), 9), len(list))
		do(kind, made(text)[:len(text)/8-1], len(list))
	})
	for _, f := range faults() {
		list, front := chain{f.kind, f.ahead}.list()
		do(f.kind, made(front+plain(f.code)+zeros(80)), len(list)+2)
	}
	for kind := range 4 {
		do(kind, made(evenText(300)), 300)
		do(kind, made(evenText(300)), 65536)
		do(kind, nil, 1)
	}
}

// What is handed in stands as it was, and what stands around it: this is nothing to the answer, either.
func TestTheBytesStayAsTheyWere(t *testing.T) {
	calls(func(kind int, b []byte, n int) {
		want, wantErr := slow.Decode(kind, slices.Clone(b), n)
		for _, around := range []byte{0, 255, 0x80, 0x5a} {
			room := bytes.Repeat([]byte{around}, 20)
			memory := slices.Concat(room, b, room)
			before := slices.Clone(memory)
			list, err := slow.Decode(kind, memory[20:20+len(b)], n)
			if !bytes.Equal(memory, before) {
				t.Fatalf("Decode(%d, %x, %d): the bytes were changed", kind, b, n)
			}
			if !slices.Equal(list, want) || err != wantErr {
				t.Fatalf("Decode(%d, %x, %d): %s, %v; want %s, %v", kind, b, n, short(list), err, short(want), wantErr)
			}
			turn(list)
			if !bytes.Equal(memory, before) {
				t.Fatalf("Decode(%d, %x, %d): the bytes were changed by the samples", kind, b, n)
			}
		}
	})
}

// A sample that is changed in an answer changes no other one, neither earlier nor later.
func TestAnswersAreNewMemory(t *testing.T) {
	calls(func(kind int, b []byte, n int) {
		want, wantErr := told(kind, b, n)
		one, _ := slow.Decode(kind, b, n)
		other, _ := slow.Decode(kind, b, n)
		turn(one)
		if !slices.Equal(other, want) {
			t.Fatalf("Decode(%d, %x, %d): two answers share memory", kind, b, n)
		}
		hold(t, kind, b, n, want, wantErr)
		for i := range other {
			other[i].T++
			other[i].V--
			hold(t, kind, b, n, want, wantErr)
		}
	})
}

// What was told stays as it was, whatever is asked behind it, and whatever becomes of the bytes.
func TestWhatWasToldStays(t *testing.T) {
	var lists [][]api.Sample
	calls(func(kind int, b []byte, n int) {
		want, _ := told(kind, b, n)
		list, _ := slow.Decode(kind, b, n)
		for i := range b {
			b[i] = ^b[i]
		}
		slow.Decode(kind, b, n)
		slow.Decode(3, b, n)
		slow.Decode(kind, b, 0)
		if !slices.Equal(list, want) {
			t.Fatalf("Decode(%d, %d bytes, %d): the samples hang on the bytes behind the call", kind, len(b), n)
		}
		lists = append(lists, list)
	})
	calls(func(kind int, b []byte, n int) {
		want, _ := told(kind, b, n)
		if !slices.Equal(lists[0], want) {
			t.Fatalf("Decode(%d, %x, %d): %s, want %s", kind, b, n, short(lists[0]), short(want))
		}
		lists = lists[1:]
	})
}

// A call hangs on what it is given alone, not on what an earlier one saw, nor on its error.
func TestNothingIsKept(t *testing.T) {
	list := []api.Sample{sample(1, 7), sample(2, 7), sample(3, 7)}
	b := append(made(binary(1)+binary(7)), 0x80, 0x80)
	for range 3 {
		hold(t, api.Xor, b, 3, list, nil)
		hold(t, api.Ints, b, 2, list[:2], nil)
		hold(t, api.Xor, b[:17], 3, list[:1], api.ErrShort)
		hold(t, api.Ints, b, 1, list[:1], api.ErrForm)
		hold(t, 3, b, 3, nil, api.ErrKind)
		hold(t, api.Ints, b, 3, list, nil)
		hold(t, api.Ints, b, 0, nil, api.ErrArg)
		b[16] = 0
		hold(t, api.Xor, b, 3, list[:1], api.ErrOrder)
		b[16] = 0x80
	}
}

// holdBack fails the test, if what is decoded of b, encoded, isn't b.
func holdBack(t *testing.T, kind int, b []byte, n int) {
	t.Helper()
	list, err := slow.Decode(kind, b, n)
	if err != nil || len(list) != n {
		t.Fatalf("Decode(%d, %x, %d): %s, %v", kind, b, n, short(list), err)
	}
	if again, err := chunk.Encode(kind, list); err != nil || !bytes.Equal(again, b) {
		t.Fatalf("%d, %s of %x, encoded: %x, %v", kind, short(list), b, again, err)
	}
}

// holdDecoded fails the test, if what is encoded of a list isn't decoded.
func holdDecoded(t *testing.T, kind int, list []api.Sample) {
	t.Helper()
	b, err := chunk.Encode(kind, list)
	if err != nil {
		t.Fatal(kind, short(list), err)
	}
	hold(t, kind, b, len(list), list, nil)
	holdBack(t, kind, b, len(list))
}

// What was encoded is decoded, of both kinds.
func TestWhatWasEncodedIsDecoded(t *testing.T) {
	sizes := []int{1, 2, 3, 7, 8, 9, 31, 32, 33, 63, 64, 65, 200, 255, 256, 257}
	for _, kind := range bothKinds() {
		for _, n := range sizes {
			for start := range uint64(60) {
				holdDecoded(t, kind, walk(start, n))
			}
			holdDecoded(t, kind, even(n))
			holdDecoded(t, kind, around(n))
		}
		for shape := range shapes {
			for place := range 8 {
				holdDecoded(t, kind, shaped(place, shape))
			}
		}
		beginnings(func(_ int, list []api.Sample, _ string) { holdDecoded(t, kind, list) })
	}
}

// around tells n samples of steps that go around: T's first one is above 2^63, and V's are about 2^63, up and down.
func around(n int) []api.Sample {
	list := make([]api.Sample, n)
	x := sample(least, 3)
	for i := range list {
		list[i] = x
		x.T += int64(1 + i%3)
		if i == 0 {
			x.T = greatest - 1000
		}
		x.V += half - uint64(i%5)
	}
	return list
}

// Each second sample, T and V being at the ends of what they may be.
func TestTwoSamplesEncoded(t *testing.T) {
	ends := []uint64{half, half + 1, all - 64, all, 0, 1, 63, 64, 65, 256, 257, 2048, 2049, half - 2, half - 1}
	for i, from := range ends {
		for _, to := range ends[i+1:] {
			for _, v := range ends {
				for _, w := range ends {
					for _, kind := range bothKinds() {
						holdDecoded(t, kind, []api.Sample{sample(int64(from), v), sample(int64(to), w)})
					}
				}
			}
		}
	}
}

// The most samples of wide codes: each T's has 68 bits but the second one's, and each V's 68 or more.
func TestTheMostSamplesOfWideCodes(t *testing.T) {
	// By Xor, no V fits into the window of the one ahead.
	turns := [2]uint64{half | 2, half/2 | 1}
	steps := [2]int64{1, 1<<40 + 1}
	list := make([]api.Sample, 65535)
	x := sample(least, 0)
	for i := range list {
		list[i] = x
		x.T += steps[i%2]
		x.V ^= turns[i%2]
	}
	for _, kind := range bothKinds() {
		holdDecoded(t, kind, list)
	}
}

// Samples' bits that layer 1 joins are bytes that are decoded, behind each of them.
func TestSamplesPutBehind(t *testing.T) {
	var x bits.Bits
	var s kinds.State
	list := walk(9, 100)
	for i, next := range list {
		code, after, err := kinds.Put(api.Xor, s, next)
		if err != nil {
			t.Fatal(err)
		}
		x, s = bits.Join(x, code), after
		hold(t, api.Xor, x.B, i+1, list[:i+1], nil)
	}
}
