package quick_test

import (
	"bytes"
	"fmt"
	"math"
	"slices"
	"strings"
	"testing"

	"gaiter/api"
	"gaiter/chunk"
	"gaiter/kinds"
	"gaiter/quick"
	"gaiter/slow"
)

// The tests hold Decode against bits written out as 0s and 1s, against samples' bits laid one behind the other, and, of any bytes, against layer 10's Decode.

const (
	least    = math.MinInt64
	greatest = math.MaxInt64
	all      = uint64(math.MaxUint64)
	half     = uint64(1) << 63
)

// front is samples of one kind, and the text of all their bits.
type front struct {
	kind int
	list []api.Sample
	text string
}

func sample(t int64, v uint64) api.Sample { return api.Sample{T: t, V: v} }

func zeros(n int) string { return strings.Repeat("0", n) }

func ones(n int) string { return strings.Repeat("1", n) }

// first tells the bits of a first sample.
func first(t int64, v uint64) string { return fmt.Sprintf("%064b%064b", uint64(t), v) }

// plain tells a text without what only parts it.
func plain(s string) string { return strings.NewReplacer(" ", "", ",", "", ";", "").Replace(s) }

// made tells a text's bytes: 0s fill up the last one, and no byte is without a bit of the text.
func made(s string) []byte {
	b := make([]byte, (len(s)+7)/8)
	for i, c := range s {
		if c == '1' {
			b[i/8] |= 128 >> (i % 8)
		}
	}
	return b
}

// textOf tells the text of bytes.
func textOf(b []byte) string {
	var s strings.Builder
	for _, c := range b {
		fmt.Fprintf(&s, "%08b", c)
	}
	return s.String()
}

// codesOf tells the text of each sample's bits, by layer 8's words.
func codesOf(kind int, list []api.Sample) []string {
	codes := make([]string, len(list))
	var s kinds.State
	for i, x := range list {
		code, next, err := kinds.Put(kind, s, x)
		if err != nil {
			panic(fmt.Sprint(kind, i, x, err))
		}
		codes[i], s = textOf(code.B)[:code.N], next
	}
	return codes
}

// laid tells samples with the text of their bits.
func laid(kind int, list []api.Sample) front {
	return front{kind, list, strings.Join(codesOf(kind, list), "")}
}

// mixer tells numbers that hang on a start alone, the lowest bits as mixed as the highest ones.
func mixer(start uint64) func() uint64 {
	v := start
	return func() uint64 {
		v = v*6364136223846793005 + 1442695040888963407
		x := v
		x ^= x >> 32
		x *= 0xd6e8feb86659fd93
		return x ^ x>>32
	}
}

// walk tells n samples of rising times: steps of several sizes, as far as n of them have room, and values that stay, go on alike, or jump.
func walk(start uint64, n int) []api.Sample {
	next := mixer(start)
	room := all / uint64(n)
	x := sample(least+int64(next()%9), next())
	d, e := uint64(1), uint64(0)
	list := make([]api.Sample, n)
	for i := range list {
		list[i] = x
		switch next() % 6 {
		case 0, 1, 2: // as before
		case 3:
			d = next() % 9
		case 4:
			d += next() % 600
		default:
			d = next() >> (next() % 64)
		}
		switch next() % 8 {
		case 0, 1, 2: // as before
		case 3:
			e = 0
		case 4:
			e += next()%9 - 4
		case 5:
			e += next()%5000 - 2500
		default:
			e = next() >> (next() % 64) << (next() % 20)
		}
		d = d%(room-9) + 1
		x = sample(x.T+int64(d), x.V+e)
	}
	return list
}

// even tells n samples whose times are 1 apart, all of one value.
func even(n int) []api.Sample {
	list := make([]api.Sample, n)
	for i := range list {
		list[i] = sample(int64(i)-70, 9)
	}
	return list
}

// evenText tells the bits of even's samples.
func evenText(n int) string {
	if n == 1 {
		return first(-70, 9)
	}
	return first(-70, 9) + "1000000010" + zeros(2*(n-2))
}

// around tells n samples of steps that go around: T's first one is above 2^63, and V's are about 2^63, up and down.
func around(n int) []api.Sample {
	list := make([]api.Sample, n)
	x := sample(least, 3)
	for i := range list {
		list[i] = x
		x.T += int64(1 + i%3)
		if i == 0 {
			x.T = greatest - 1000
		}
		x.V += half - uint64(i%5)
	}
	return list
}

// written tells samples written out, with steps of T and V that go around.
func written() []front {
	list := []front{
		{api.Xor,
			[]api.Sample{sample(100, 7), sample(101, 7), sample(102, 7), sample(103, 6), sample(104, 7), sample(204, 7), sample(304, 7), sample(404, 5), sample(405, 5), sample(406, 61), sample(407, 21), sample(408, 5)},
			first(100, 7) + "10 0000001, 0; 0, 0; 0, 11 111111 000000 1; 0, 10 1; 110 001100011, 0; 0, 0; 0, 11 111110 000000 1; 110 110011101, 0; 0, 11 111010 000010 111; 0, 10 101; 0, 10 010"},
		{api.Xor,
			[]api.Sample{sample(5, 5), sample(2914, half|5), sample(2915, half|5), sample(4964, 5), sample(4965, 4)},
			first(5, 5) + "1111 " + zeros(52) + "101101011101, 11 000000 000000 1; 1111 " + ones(52) + "010010100100, 0; 1111 " + zeros(52) + "100000000000, 10 1; 1110 100000000000, 11 111111 000000 1"},
		{api.Ints,
			[]api.Sample{sample(10, 5), sample(20, 8), sample(30, 11), sample(40, 11), sample(50, 11), sample(60, 111), sample(70, 211), sample(71, 311)},
			first(10, 5) + "10 0001010, 10 0000011; 0, 0; 0, 10 1111101; 0, 0; 0, 110 001100100; 0, 0; 10 1110111, 0"},
		{api.Xor, []api.Sample{sample(least, 0), sample(greatest, all)}, first(least, 0) + "10 1111111, 11 000000 111111 " + ones(64)},
		{api.Xor, []api.Sample{sample(least, all), sample(-1, all), sample(greatest, all-1)}, first(least, all) + "1111 0" + ones(63) + ", 0; 10 0000001, 11 111111 000000 1"},
		{api.Ints, []api.Sample{sample(least, all), sample(greatest, half-1)}, first(least, all) + "10 1111111, 1111 1" + zeros(63)},
		{api.Ints,
			[]api.Sample{sample(least, 0), sample(0, half), sample(1, half+1), sample(greatest, half)},
			first(least, 0) + "1111 1" + zeros(63) + ", 1111 1" + zeros(63) + "; 1111 1" + zeros(62) + "1, 1111 1" + zeros(62) + "1; 1111 0" + ones(61) + "01, 10 1111110"},
		{api.Ints, []api.Sample{sample(-1, 0), sample(0, all), sample(1, 0), sample(2, 1)}, first(-1, 0) + "10 0000001, 10 1111111; 0, 10 0000010; 0, 0"},
	}
	for i := range list {
		list[i].text = plain(list[i].text)
	}
	return list
}

func bothKinds() []int { return []int{api.Xor, api.Ints} }

// noKinds tells numbers that are no kind; some of them would be one, if bits of them were lost.
func noKinds() []int {
	list := []int{0, 3, 4, 5, 7, 10, -1, -2, -3, 257, 258, -255, -254, 1<<16 + 1, 1<<16 + 2, 1<<32 + 1, 1<<32 + 2}
	return append(list, math.MinInt, math.MinInt+1, math.MinInt+2, math.MaxInt, math.MaxInt-1, math.MaxInt32, math.MinInt32)
}

// noCounts tells numbers that no samples may be; some of them might be one, if bits of them were lost.
func noCounts() []int {
	list := []int{0, -1, -2, -3, -32, -33, -100, -65534, -65535, -65536, -65537, 65536, 65537, 65538, 65568, 2 * 65536, 2*65536 + 1, 1<<24 + 1, 1<<31 + 1, 1 << 32, 1<<32 + 1, 1<<32 + 3, 1 - 1<<32}
	return append(list, math.MinInt, math.MinInt+1, math.MinInt+3, math.MaxInt, math.MaxInt-1, math.MaxInt32, math.MinInt32, math.MinInt32+1)
}

// sizes tells how many samples lists have: they end at the places where layer 11's batches end, and about these.
func sizes() []int { return []int{1, 2, 3, 31, 32, 33, 34, 63, 64, 65, 66, 96, 97, 200} }

// short tells a list as far as a test's output needs it.
func short(list []api.Sample) string {
	return fmt.Sprintf("%d samples from %v", len(list), list[:min(4, len(list))])
}

// hold fails the test, if Decode tells anything but these samples and this error, the value itself.
func hold(t *testing.T, kind int, b []byte, n int, want []api.Sample, wantErr error) {
	t.Helper()
	list, err := quick.Decode(kind, b, n)
	if err != wantErr || !slices.Equal(list, want) {
		t.Fatalf("Decode(%d, %d bytes from %x, %d): %s, %v; want %s, %v", kind, len(b), b[:min(40, len(b))], n, short(list), err, short(want), wantErr)
	}
}

// holdSlow fails the test, if Decode answers otherwise than layer 10's; it tells the error.
func holdSlow(t *testing.T, kind int, b []byte, n int) error {
	t.Helper()
	list, err := slow.Decode(kind, b, n)
	hold(t, kind, b, n, list, err)
	return err
}

// behind tells what the bits behind all samples make of the answer.
func behind(rest string) error {
	if len(rest) >= 8 || strings.Contains(rest, "1") {
		return api.ErrForm
	}
	return nil
}

func TestExamples(t *testing.T) {
	hold(t, api.Xor, nil, 1, nil, api.ErrShort)
	hold(t, api.Ints, []byte{}, 1, nil, api.ErrShort)
	head := []byte{1, 0x23, 0x45, 0x67, 0x89, 0xab, 0xcd, 0xef, 0xfe, 0xdc, 0xba, 0x98, 0x76, 0x54, 0x32, 0x10}
	want := []api.Sample{sample(0x0123456789abcdef, 0xfedcba9876543210), sample(0x0123456789abcdf0, 0xfedcba9876543210), sample(0x0123456789abcdf1, 0xfedcba9876543210)}
	for _, kind := range bothKinds() {
		hold(t, kind, head, 1, want[:1], nil)
		hold(t, kind, append(head, 0x80, 0x80), 2, want[:2], nil)
		hold(t, kind, append(head, 0x80, 0x80), 3, want, nil)
	}
}

func TestWrittenOut(t *testing.T) {
	for _, f := range written() {
		hold(t, f.kind, made(f.text), len(f.list), f.list, nil)
		rest := f.text
		for n, code := range codesOf(f.kind, f.list) {
			rest = strings.TrimPrefix(rest, code)
			tail := textOf(made(f.text))[len(f.text)-len(rest):]
			hold(t, f.kind, made(f.text), n+1, f.list[:n+1], behind(tail))
		}
		if rest != "" {
			t.Errorf("%d, %s: %s is over", f.kind, short(f.list), rest)
		}
	}
}

// One sample is 16 bytes, whatever it is.
func TestOneSample(t *testing.T) {
	ends := []uint64{0, 1, 2, 255, all, all - 1, half, half - 1, half + 1, 1 << 32, 0x0123456789abcdef}
	for _, at := range ends {
		for _, v := range ends {
			for _, kind := range bothKinds() {
				hold(t, kind, made(first(int64(at), v)), 1, []api.Sample{sample(int64(at), v)}, nil)
			}
		}
	}
}

// Samples are told to the last one, however many they are, and of both kinds.
func TestNumbersOfSamples(t *testing.T) {
	for n := 1; n <= 140; n++ {
		for _, kind := range bothKinds() {
			for _, list := range [][]api.Sample{even(n), walk(uint64(n), n), around(n)} {
				f := laid(kind, list)
				hold(t, kind, made(f.text), n, list, nil)
				hold(t, kind, append(made(f.text), 0), n, list, api.ErrForm)
				hold(t, kind, made(f.text)[:len(f.text)/8-1], 65535, list[:whole(kind, list, len(f.text)/8-1)], api.ErrShort)
			}
		}
	}
}

// whole tells how many of the samples are there as a whole in so many bytes.
func whole(kind int, list []api.Sample, size int) int {
	end := 0
	for i, code := range codesOf(kind, list) {
		if end += len(code); end > 8*size {
			return i
		}
	}
	return len(list)
}

// What is asked for is told ahead of all: the bytes, and the kind, may be wrong, too.
func TestOfNoCount(t *testing.T) {
	for _, n := range noCounts() {
		for _, kind := range append(noKinds(), bothKinds()...) {
			hold(t, kind, nil, n, nil, api.ErrArg)
			hold(t, kind, []byte{}, n, nil, api.ErrArg)
			hold(t, kind, make([]byte, 15), n, nil, api.ErrArg)
			hold(t, kind, make([]byte, 16), n, nil, api.ErrArg)
			hold(t, kind, made(evenText(5)), n, nil, api.ErrArg)
			hold(t, kind, made(evenText(33)), n, nil, api.ErrArg)
			hold(t, kind, bytes.Repeat([]byte{255}, 99), n, nil, api.ErrArg)
		}
	}
	// As many samples as are asked for are there, too.
	b := made(evenText(65540))
	for _, n := range []int{65536, 65537, 65538, 65540, 65541} {
		for _, kind := range append(bothKinds(), 0, 3) {
			hold(t, kind, b, n, nil, api.ErrArg)
		}
	}
}

// What is no kind is told ahead of all that the bytes are.
func TestOfNoKind(t *testing.T) {
	for _, kind := range noKinds() {
		for _, n := range []int{1, 2, 3, 5, 32, 33, 300, 65534, 65535} {
			hold(t, kind, nil, n, nil, api.ErrKind)
			hold(t, kind, []byte{}, n, nil, api.ErrKind)
			hold(t, kind, make([]byte, 1), n, nil, api.ErrKind)
			hold(t, kind, make([]byte, 15), n, nil, api.ErrKind)
			hold(t, kind, make([]byte, 16), n, nil, api.ErrKind)
			hold(t, kind, make([]byte, 99), n, nil, api.ErrKind)
			hold(t, kind, bytes.Repeat([]byte{255}, 99), n, nil, api.ErrKind)
			hold(t, kind, made(evenText(n)), n, nil, api.ErrKind)
			hold(t, kind, append(made(evenText(n)), 1), n, nil, api.ErrKind)
		}
	}
}

// Fewer bytes than the first sample has tell none.
func TestOfLessThanTheFirst(t *testing.T) {
	for size := range 16 {
		for _, fill := range []byte{0, 1, 128, 255, 0x5a} {
			for _, n := range []int{1, 2, 3, 32, 33, 65534, 65535} {
				for _, kind := range bothKinds() {
					hold(t, kind, bytes.Repeat([]byte{fill}, size), n, nil, api.ErrShort)
				}
			}
		}
	}
}

// shapes is how many shapes there are: one of five steps of T's step, and one of ten steps of V.
const shapes = 5 * 10

// shaped tells n samples, the last one with codes of a shape (0 up to shapes), by Xor behind a window: over the places 0 to 7 it begins at each place inside a byte.
func shaped(n, place, shape int) []api.Sample {
	const v = uint64(0x00ffffffffff0000)
	list := []api.Sample{sample(0, v^0xff0000), sample(5, v), sample(10, v)}
	d := int64(5)
	next := func(dd int64, v uint64) {
		d += dd
		list = append(list, sample(list[len(list)-1].T+d, v))
	}
	for len(list) < n-1 {
		// Each of the first ones has 13 bits, each of the others 2: so for each place the last one begins 11 bits farther.
		if len(list)-3 < place {
			next(100, v)
		} else {
			next(0, v)
		}
	}
	times := []int64{0, -1, 100, 2047, 1 << 40}
	values := []uint64{v, v + 3, v + 101, v + 2047, v + 1<<30, v ^ half, v - 1, v ^ 5<<61, v ^ 0xff<<16, v ^ 0x3c<<16}
	next(times[shape%5], values[shape/5])
	return list
}

// Bytes that are cut off inside a later sample, at each of its bits, tell those ahead of it.
func TestCutOffAtEachPlace(t *testing.T) {
	widths := map[int]bool{}
	for i := range shapes * 8 {
		shape, last := i%shapes, []int{11, 32, 33, 34, 64, 65, 66, 97}[i/shapes]
		for _, kind := range bothKinds() {
			cuts := map[int]bool{}
			width := 0
			for place := range 8 {
				list := shaped(last, place, shape)
				codes := codesOf(kind, list)
				text := strings.Join(codes, "")
				width = len(codes[last-1])
				ahead := len(text) - width
				b := made(text)
				for size := (ahead + 7) / 8; 8*size < len(text); size++ {
					hold(t, kind, b[:size], last, list[:last-1], api.ErrShort)
					hold(t, kind, b[:size], 65535, list[:last-1], api.ErrShort)
					hold(t, kind, b[:size], last-1, list[:last-1], behind(text[ahead:8*size]))
					cuts[8*size-ahead] = true
				}
				hold(t, kind, b, last, list, nil)
			}
			if len(cuts) != width {
				t.Errorf("%d, shape %d: only %d cuts of %d bits", kind, shape, len(cuts), width)
			}
			widths[width] = true
		}
	}
	if len(widths) < 30 {
		t.Errorf("only %v", widths)
	}
}

// Bytes that are cut off anywhere tell the samples that are there as a whole, or as many as are asked for.
func TestCutOffAnywhere(t *testing.T) {
	for start := range uint64(12) {
		list := walk(start, 70)
		for _, kind := range bothKinds() {
			codes := codesOf(kind, list)
			text := strings.Join(codes, "")
			there, end := 0, 0
			for size := range (len(text) + 7) / 8 {
				b := made(text[:8*size])
				for end+len(codes[there]) <= 8*size {
					end += len(codes[there])
					there++
				}
				for _, n := range []int{there + 1, 70, 65535} {
					hold(t, kind, b, n, list[:there], api.ErrShort)
				}
				if there > 0 {
					hold(t, kind, b, there, list[:there], behind(text[end:8*size]))
				}
			}
		}
	}
}

// fault is bits that are no sample's behind even's samples, two of them at least.
type fault struct {
	kind int
	code string
	want api.Code
}

// noOwnCodes tells bits of layer 5 that are the code of no number.
func noOwnCodes() []string {
	return []string{
		"10 0000000",
		"110 000000000", "110 000111111", "110 111000000", "110 111111111",
		"1110 000000000000", "1110 000011111111", "1110 111100000000", "1110 111111111111",
		"1111 " + zeros(64), "1111 " + zeros(53) + ones(11), "1111 " + ones(53) + zeros(11), "1111 " + ones(64),
	}
}

// faults tells faults of both kinds, and of each alone.
func faults() []fault {
	var list []fault
	// Times that stand, or go back.
	for _, kind := range bothKinds() {
		for _, at := range []string{"10 1111111", "10 1111110", "10 1000000", "110 100000000", "1110 100000000000", "1111 1" + zeros(20) + "1" + zeros(42), "1111 1" + ones(40) + zeros(23)} {
			list = append(list, fault{kind, at + "0", api.ErrOrder})
			list = append(list, fault{kind, at + []string{"11 111111 000000 1", "10 0000001"}[kind-1], api.ErrOrder})
		}
	}
	// Codes that aren't the number's own: of T ahead of all that V's is; of V ahead of T's order.
	for _, at := range []string{"", "0", "10 0000001", "10 1111111"} {
		for _, code := range noOwnCodes() {
			list = append(list, fault{api.Ints, at + code, api.ErrForm})
			if at == "" {
				list = append(list, fault{api.Xor, at + code, api.ErrForm})
			}
		}
		if at == "" {
			continue
		}
		for _, code := range []string{"10", "11 000001 111111", "11 111111 000001", "11 111111 111111", "11 000000 000000 0", "11 000000 111111 " + zeros(64), "11 000000 000001 01", "11 000000 000001 10"} {
			list = append(list, fault{api.Xor, at + code, api.ErrForm})
		}
	}
	return list
}

// The first error is told, with the samples ahead of it and no others, whatever stands behind, and however many are asked for; but none, if no more are asked for than are ahead.
func TestFirstError(t *testing.T) {
	tails := []string{zeros(7), ones(7), ones(15), zeros(200), ones(200), strings.Repeat("1000000010", 30)}
	for _, ahead := range []int{2, 3, 30, 31, 32, 33, 34, 63, 64, 65, 66, 96, 97} {
		list := even(ahead)
		for _, f := range faults() {
			for _, tail := range tails {
				text := evenText(ahead) + plain(f.code) + tail
				// Bytes end nowhere else than at a byte's end: so what is over is cut off the tail.
				text = text[:len(text)/8*8]
				b := made(text)
				for _, n := range []int{ahead + 1, ahead + 2, ahead + 31, ahead + 32, 65535} {
					hold(t, f.kind, b, n, list, f.want)
				}
				for _, n := range []int{ahead, ahead - 1, 1} {
					hold(t, f.kind, b, n, list[:n], behind(text[len(evenText(n)):]))
				}
			}
		}
	}
}

// The first error is told also behind as many samples as there may be ahead of one, and about numbers of which bits may be lost.
func TestFirstErrorFarOn(t *testing.T) {
	seen := map[api.Code]int{}
	for _, ahead := range []int{255, 256, 257, 32767, 32768, 65534} {
		list, text := even(ahead), evenText(ahead)
		for i, f := range faults() {
			// Each of these takes its time: so some are enough.
			if i%8 != ahead%8 {
				continue
			}
			b := made(text + plain(f.code) + ones(8))
			hold(t, f.kind, b, ahead+1, list, f.want)
			hold(t, f.kind, b, 65535, list, f.want)
			hold(t, f.kind, b, ahead, list, api.ErrForm)
			seen[f.want]++
		}
	}
	if seen[api.ErrOrder] < 10 || seen[api.ErrForm] < 10 {
		t.Errorf("only %v", seen)
	}
}

// A window is one of what layer 11 tells of the samples ahead, also where these are an earlier batch's.
func TestWindowOfAnEarlierBatch(t *testing.T) {
	for _, ahead := range []int{2, 3, 31, 32, 33, 64, 65} {
		for _, stays := range []int{0, 1, 2, 31, 32, 33, 70} {
			list := even(ahead)
			list[ahead-1].V ^= 56
			for range stays {
				last := list[len(list)-1]
				list = append(list, sample(last.T+1, last.V))
			}
			f := laid(api.Xor, list)
			last := list[len(list)-1]
			for _, c := range []struct {
				code string
				v    uint64
				want error
			}{
				{"10 101", 40, nil}, {"10 001", 8, nil}, {"10 111", 56, nil}, {"10 000", 0, api.ErrForm},
				{"11 111010 000010 111", 0, api.ErrForm}, {"11 111011 000000 1", 0, api.ErrForm}, {"11 111101 000000 1", 4, nil}, {"0", 0, nil},
			} {
				// An error is seen as well as it can be with 1s behind it.
				text, want := f.text+"0"+plain(c.code), append(slices.Clone(list), sample(last.T+1, last.V^c.v))
				if c.want != nil {
					text, want = text+ones(8), list
				}
				hold(t, api.Xor, made(text), len(list)+1, want, c.want)
			}
		}
	}
}

// Behind the first sample, and at the numbers' ends, times that don't rise, or do by 1.
func TestOrderAtTheEnds(t *testing.T) {
	for _, c := range []struct {
		from int64
		code string
		want error
	}{
		{10, "0, 0", api.ErrOrder}, {10, "10 1111111, 0", api.ErrOrder}, {least, "0, 0", api.ErrOrder}, {greatest, "0, 0", api.ErrOrder}, {greatest, "10 0000001, 0", api.ErrOrder},
		{greatest, "1111 0" + ones(63) + ", 0", api.ErrOrder}, {10, "1111 0" + ones(63) + ", 0", api.ErrOrder}, {10, "1111 1" + zeros(63) + ", 0", api.ErrOrder}, {0, "1111 1" + zeros(63) + ", 0", api.ErrOrder},
		{least, "10 0000001, 0", nil}, {greatest - 1, "10 0000001, 0", nil}, {-1, "10 0000001, 0", nil},
	} {
		for _, kind := range bothKinds() {
			list := []api.Sample{sample(c.from, 5)}
			if c.want == nil {
				list = append(list, sample(c.from+1, 5))
			}
			hold(t, kind, made(first(c.from, 5)+plain(c.code)), 2, list, c.want)
		}
	}
	// The time goes on by as much as ahead, up to the greatest number and no farther, wherever a batch ends.
	for _, n := range sizes()[1:] {
		for _, kind := range bothKinds() {
			list := even(n)
			for i := range list {
				list[i].T = greatest - int64(n-1-i)
			}
			f := laid(kind, list)
			hold(t, kind, made(f.text), n, list, nil)
			hold(t, kind, append(made(f.text), 0), n+9, list, api.ErrOrder)
		}
	}
}

// The error of T's bits is told ahead of V's, and that V's bits end too early ahead of T's order.
func TestFirstErrorOfASample(t *testing.T) {
	for _, c := range []struct {
		kind int
		code string
		want api.Code
	}{
		// T stands, or goes back, and V ends too early.
		{api.Xor, "10 1111111, 11 11111", api.ErrShort},
		{api.Ints, "10 1111111, 1111 111", api.ErrShort},
		{api.Xor, "10 1000000, 11 00000", api.ErrShort},
		{api.Ints, "10 1000000, 1111 000", api.ErrShort},
		// T has no own code, and V ends too early, or has none, either.
		{api.Xor, "10 0000000, 11 11111", api.ErrForm},
		{api.Ints, "10 0000000, 1111 111", api.ErrForm},
		{api.Xor, "10 0000000, 10 00000", api.ErrForm},
		{api.Ints, "110 000000001, 1111", api.ErrForm},
		// T ends too early.
		{api.Xor, "10 000000", api.ErrShort},
		{api.Ints, "110 00000", api.ErrShort},
		{api.Xor, "1111 0000", api.ErrShort},
		{api.Ints, "1110 0000", api.ErrShort},
	} {
		// With these many samples ahead, the code begins at a byte's begin.
		for _, ahead := range []int{1, 5, 29, 33, 61, 65} {
			text := evenText(ahead)
			if len(text)%8 != 0 {
				t.Fatalf("%d samples have %d bits", ahead, len(text))
			}
			b := made(text + plain(c.code))
			for _, n := range []int{ahead + 1, ahead + 2, 65535} {
				hold(t, c.kind, b, n, even(ahead), c.want)
			}
			hold(t, c.kind, b, ahead, even(ahead), api.ErrForm)
		}
	}
}

// Bits that fill up the last byte are samples, if more are asked for: each has two of them.
func TestMoreAreAsked(t *testing.T) {
	over := map[int]bool{}
	for _, kind := range bothKinds() {
		for n := 2; n < 100; n++ {
			b := made(evenText(n))
			left := 8*len(b) - len(evenText(n))
			for more := 1; 2*more <= left; more++ {
				hold(t, kind, b, n+more, even(n+more), nil)
				over[(n+more-1)/32-(n-1)/32] = true
			}
			for _, none := range []int{1, 2, 3, 31, 32, 33} {
				hold(t, kind, b, n+left/2+none, even(n+left/2), api.ErrShort)
			}
			hold(t, kind, b, 65535, even(n+left/2), api.ErrShort)
		}
		for _, f := range written() {
			for n := len(f.list); n < len(f.list)+6; n++ {
				holdSlow(t, f.kind, made(f.text), n)
			}
		}
		// The steps are those of the samples ahead.
		f := laid(kind, []api.Sample{sample(10, 7), sample(30, 7), sample(60, 7)})
		left := (8 - len(f.text)%8) % 8
		list := append(slices.Clone(f.list), sample(90, 7), sample(120, 7))
		hold(t, kind, made(f.text), 3+left/2, list[:3+left/2], nil)
		if left < 2 {
			t.Errorf("only %d bits left", left)
		}
	}
	if len(over) != 2 {
		t.Errorf("only %v", over)
	}
}

// All samples that are asked for are told, however many bits are behind them; these are told as an error, if they don't just fill up a byte.
func TestFewerAreAsked(t *testing.T) {
	seen := map[error]int{}
	for _, there := range []int{2, 3, 5, 33, 34, 35, 40, 65, 66, 67, 100} {
		for asked := 1; asked < there; asked++ {
			want := behind(textOf(made(evenText(there)))[len(evenText(asked)):])
			for _, kind := range bothKinds() {
				hold(t, kind, made(evenText(there)), asked, even(asked), want)
			}
			seen[want]++
		}
	}
	if seen[nil] < 10 || seen[api.ErrForm] < 10 {
		t.Errorf("only %v", seen)
	}
}

// ending tells n samples whose bits end at each place inside a byte, over the places 0 to 7, if n is 9 at least; less, if n is less.
func ending(n, place int) []api.Sample {
	list := even(n)
	d := int64(1)
	for i := 1; i < n; i++ {
		// Each of these has 13 bits, each of the others 2, but for the second one.
		if i >= 2 && i-2 < place {
			d += 100
		}
		list[i].T = list[i-1].T + d
	}
	return list
}

// Each way in which bits fill up the last byte, and each byte behind it.
func TestBitsBehind(t *testing.T) {
	for _, kind := range bothKinds() {
		for _, n := range sizes() {
			lefts := map[int]bool{}
			for place := range 8 {
				f := laid(kind, ending(n, place))
				left := (8 - len(f.text)%8) % 8
				lefts[left] = true
				for fill := range 1 << left {
					rest := fmt.Sprintf("%08b", fill)[8-left:]
					b := made(f.text + rest)
					hold(t, kind, b, n, f.list, behind(rest))
					for _, more := range []byte{0, 1, 2, 64, 128, 255} {
						hold(t, kind, append(b, more), n, f.list, api.ErrForm)
					}
				}
				b := made(f.text)
				for more := range 256 {
					hold(t, kind, append(b, byte(more)), n, f.list, api.ErrForm)
				}
				for _, size := range []int{2, 3, 7, 8, 9, 10, 16, 100, 1 << 13} {
					hold(t, kind, append(b, make([]byte, size)...), n, f.list, api.ErrForm)
				}
			}
			if n >= 9 && len(lefts) != 8 {
				t.Errorf("%d of kind %d: only %v", n, kind, lefts)
			}
		}
	}
}

// A single 1, far behind the samples, is an error like any other, and 0s are, however many.
func TestFarBehind(t *testing.T) {
	for _, kind := range bothKinds() {
		for _, n := range []int{1, 32, 33, 65} {
			b := made(evenText(n))
			for _, size := range []int{1 << 16, 1 << 20} {
				hold(t, kind, append(b, make([]byte, size)...), n, even(n), api.ErrForm)
				hold(t, kind, append(append(b, make([]byte, size)...), 1), n, even(n), api.ErrForm)
			}
		}
	}
}

// The most samples that may be asked for.
func TestTheMostSamples(t *testing.T) {
	list, b := even(65535), made(evenText(65535))
	for _, kind := range bothKinds() {
		hold(t, kind, b, 65535, list, nil)
		hold(t, kind, b, 65534, list[:65534], nil)
		hold(t, kind, b, 65533, list[:65533], api.ErrForm)
		hold(t, kind, append(b, 0), 65535, list, api.ErrForm)
		hold(t, kind, append(b, 0x08), 65535, list, api.ErrForm)
		hold(t, kind, made(evenText(65534)), 65535, list, nil)
		hold(t, kind, made(evenText(65533)), 65535, list[:65533], api.ErrShort)
		hold(t, kind, made(evenText(1<<20)), 65535, list, api.ErrForm)
		mixed := laid(kind, walk(3, 65535))
		code := made(mixed.text)
		hold(t, kind, code, 65535, mixed.list, nil)
		hold(t, kind, code[:len(code)-1], 65535, mixed.list[:65534], api.ErrShort)
	}
}

// Of all 12 bits behind a first sample, both Decodes tell the same.
func TestAllBitsBehindTheFirst(t *testing.T) {
	seen := map[error]int{}
	for _, from := range []string{first(0, 1), first(least+1, all), first(greatest-4, 0)} {
		for tail := range 1 << 12 {
			b := append(made(from), byte(tail>>4), byte(tail<<4))
			for _, kind := range bothKinds() {
				for _, n := range []int{2, 3, 5, 9} {
					seen[holdSlow(t, kind, b, n)]++
				}
			}
		}
	}
	holdSeen(t, seen, 300)
}

// holdSeen fails the test, if one of the errors that bytes may have was seen fewer times.
func holdSeen(t *testing.T, seen map[error]int, times int) {
	t.Helper()
	for _, err := range []error{nil, api.ErrShort, api.ErrForm, api.ErrOrder} {
		if seen[err] < times {
			t.Errorf("%v only %d times", err, seen[err])
		}
	}
}

// Of all 16 bits behind so many samples that a batch ends there, or near, both Decodes tell the same.
func TestBitsBehindABatch(t *testing.T) {
	seen := map[error]int{}
	for _, ahead := range []int{29, 31, 32, 33} {
		for _, kind := range bothKinds() {
			text := evenText(ahead)
			for tail := range 1 << 11 {
				bits := fmt.Sprintf("%011b", tail)
				bits += zeros((8 - (len(text)+len(bits))%8) % 8)
				for _, n := range []int{ahead + 1, ahead + 3} {
					seen[holdSlow(t, kind, made(text+bits), n)]++
				}
			}
		}
	}
	holdSeen(t, seen, 100)
}

// encoded tells lists and their bytes of layer 9: of both kinds, of several sizes, and with steps that go around.
func encoded(t *testing.T, do func(kind int, b []byte, list []api.Sample)) {
	t.Helper()
	for _, n := range []int{1, 31, 32, 33, 64, 65, 200} {
		for _, list := range [][]api.Sample{even(n), walk(uint64(n), n), around(n)} {
			for _, kind := range bothKinds() {
				b, err := chunk.Encode(kind, list)
				if err != nil {
					t.Fatal(kind, short(list), err)
				}
				do(kind, b, list)
			}
		}
	}
}

// counts tells numbers of samples: as many, one too few, and one too many.
func counts(list []api.Sample) []int { return []int{len(list), len(list) - 1, len(list) + 1} }

// What was encoded is decoded, of both kinds; and as layer 10 does for other numbers of samples.
func TestWhatWasEncoded(t *testing.T) {
	encoded(t, func(kind int, b []byte, list []api.Sample) {
		hold(t, kind, b, len(list), list, nil)
		for _, n := range append(counts(list), 2*len(list), len(list)/2, 1, 32, 33, 65535, 0, 65536, -1) {
			holdSlow(t, kind, b, n)
		}
	})
	for _, kind := range bothKinds() {
		for start := range uint64(60) {
			for _, n := range sizes() {
				f := laid(kind, walk(start, n))
				b, err := chunk.Encode(kind, f.list)
				if err != nil || !bytes.Equal(b, made(f.text)) {
					t.Fatal(kind, start, n, err)
				}
				hold(t, kind, b, n, f.list, nil)
			}
		}
	}
}

// With any byte of it turned, both Decodes tell the same: all its bits, the first one, the last one, and one that hangs on its place.
func TestEachByteTurned(t *testing.T) {
	seen := map[error]int{}
	encoded(t, func(kind int, b []byte, list []api.Sample) {
		for i := range b {
			for _, turn := range []byte{255, 128, 1, 2 << (i % 6)} {
				if len(list) == 200 && turn != 255 && int(turn)%4 != i%4 {
					continue
				}
				b[i] ^= turn
				for _, n := range counts(list) {
					seen[holdSlow(t, kind, b, n)]++
				}
				b[i] ^= turn
			}
		}
	})
	seen[nil] *= 10 // there are fewer of these
	holdSeen(t, seen, 1000)
}

// Cut off anywhere, both Decodes tell the same.
func TestEncodedCutOff(t *testing.T) {
	seen := map[error]int{}
	encoded(t, func(kind int, b []byte, list []api.Sample) {
		for size := range b {
			for _, n := range counts(list) {
				seen[holdSlow(t, kind, b[:size], n)]++
			}
		}
	})
	if seen[api.ErrShort] < 1000 || seen[api.ErrForm] < 100 || seen[nil] < 1 {
		t.Errorf("only %v", seen)
	}
}

// Of any bytes, any kind and any number, both Decodes tell the same.
func TestAnyBytes(t *testing.T) {
	numbers := append(noCounts(), 1, 2, 3, 4, 17, 31, 32, 33, 64, 65, 300, 65534, 65535)
	for start := range uint64(3000) {
		next := mixer(start)
		b := make([]byte, next()%40)
		for i := range b {
			b[i] = byte(next() & next())
			if i > 16 && start%3 == 0 {
				b[i] &= byte(next() & next())
			}
		}
		// Bytes of 0s behind a second sample are samples: so some of these go on over several batches.
		if start%5 == 0 {
			b = append(made(evenText(2)), make([]byte, next()%20)...)
			for range next() % 4 {
				b[next()%uint64(len(b))] ^= byte(next() & next())
			}
		}
		for kind := -1; kind < 5; kind++ {
			for _, n := range numbers {
				holdSlow(t, kind, b, n)
			}
		}
		holdSlow(t, noKinds()[start%uint64(len(noKinds()))], b, numbers[start%uint64(len(numbers))])
	}
}

// overwrite changes every sample of a list's memory, that behind its end, too.
func overwrite(list []api.Sample) {
	list = list[:cap(list)]
	for i, x := range list {
		list[i] = sample(^x.T, ^x.V)
	}
}

// calls tells arguments of all answers: no error, and each one.
func calls(do func(kind int, b []byte, n int)) {
	for _, kind := range bothKinds() {
		for _, size := range sizes() {
			f := laid(kind, walk(uint64(size), size))
			for _, n := range counts(f.list) {
				do(kind, made(f.text), n)
			}
			do(kind, append(made(f.text), 9), size)
			do(kind, made(f.text)[:len(f.text)/8-1], size)
			do(kind, made(evenText(size)), size)
			do(kind, append(made(evenText(size)), 0), size+9)
			do(kind+2, made(f.text), size)
			do(kind, made(f.text), 65536)
		}
		do(kind, nil, 1)
	}
	for _, f := range faults() {
		for _, ahead := range []int{2, 32, 40} {
			do(f.kind, made(evenText(ahead)+plain(f.code)+zeros(80)), ahead+2)
		}
	}
}

// What is handed in stands as it was, and what stands around it: this is nothing to the answer, either.
func TestTheBytesStayAsTheyWere(t *testing.T) {
	calls(func(kind int, b []byte, n int) {
		want, wantErr := slow.Decode(kind, b, n)
		for _, room := range [][]byte{make([]byte, 20), bytes.Repeat([]byte{255}, 20), bytes.Repeat([]byte{0x5a}, 20)} {
			memory := slices.Concat(room, b, room)
			before := slices.Clone(memory)
			list, err := quick.Decode(kind, memory[20:20+len(b)], n)
			if !bytes.Equal(memory, before) {
				t.Fatalf("Decode(%d, %x, %d): the bytes were changed", kind, b, n)
			}
			if !slices.Equal(list, want) || err != wantErr {
				t.Fatalf("Decode(%d, %x, %d): %s, %v; want %s, %v", kind, b, n, short(list), err, short(want), wantErr)
			}
			overwrite(list)
			if !bytes.Equal(memory, before) {
				t.Fatalf("Decode(%d, %x, %d): the bytes were changed by the samples", kind, b, n)
			}
		}
	})
}

// A sample that is changed in an answer changes no other one, neither earlier nor later.
func TestAnswersAreNewMemory(t *testing.T) {
	calls(func(kind int, b []byte, n int) {
		want, wantErr := slow.Decode(kind, b, n)
		one, _ := quick.Decode(kind, b, n)
		other, _ := quick.Decode(kind, b, n)
		overwrite(one)
		if !slices.Equal(other, want) {
			t.Fatalf("Decode(%d, %x, %d): two answers share memory", kind, b, n)
		}
		overwrite(other)
		hold(t, kind, b, n, want, wantErr)
		for i := range other {
			other[i].T++
			other[i].V--
		}
		hold(t, kind, b, n, want, wantErr)
	})
}

// What was told stays as it was, whatever is asked behind it, and whatever becomes of the bytes.
func TestWhatWasToldStays(t *testing.T) {
	var lists, wants [][]api.Sample
	calls(func(kind int, b []byte, n int) {
		want, _ := slow.Decode(kind, b, n)
		list, _ := quick.Decode(kind, b, n)
		for i := range b {
			b[i] = ^b[i]
		}
		holdSlow(t, kind, b, n)
		for range 2 {
			quick.Decode(kind, b, 65535)
			quick.Decode(3, b, n)
			quick.Decode(kind, b, 0)
		}
		if !slices.Equal(list, want) {
			t.Fatalf("Decode(%d, %d bytes, %d): the samples hang on the bytes behind the call", kind, len(b), n)
		}
		lists, wants = append(lists, list), append(wants, want)
	})
	for i, list := range lists {
		if !slices.Equal(list, wants[i]) {
			t.Fatalf("the %d-th call: %s, want %s", i, short(list), short(wants[i]))
		}
	}
	if len(lists) < 100 {
		t.Errorf("only %d calls", len(lists))
	}
}

// A call hangs on what it is given alone, not on what an earlier one saw, nor on its error.
func TestNothingIsKept(t *testing.T) {
	list := []api.Sample{sample(1, 7), sample(2, 7), sample(3, 7)}
	b := append(made(first(1, 7)), 0x80, 0x80)
	long := made(evenText(70))
	for range 3 {
		hold(t, api.Xor, b, 3, list, nil)
		hold(t, api.Ints, b, 2, list[:2], nil)
		hold(t, api.Xor, b[:17], 3, list[:1], api.ErrShort)
		hold(t, api.Ints, b, 1, list[:1], api.ErrForm)
		hold(t, 3, b, 3, nil, api.ErrKind)
		hold(t, api.Xor, long, 70, even(70), nil)
		hold(t, api.Ints, b, 3, list, nil)
		hold(t, api.Ints, b, 0, nil, api.ErrArg)
		hold(t, api.Ints, long, 33, even(33), api.ErrForm)
		b[16] = 0
		hold(t, api.Xor, b, 3, list[:1], api.ErrOrder)
		b[16] = 0x80
	}
}
