package chunk_test

import (
	"bytes"
	"fmt"
	"math"
	"slices"
	"strings"
	"testing"

	"gaiter/api"
	"gaiter/chunk"
	"gaiter/kinds"
)

// The tests hold Encode against bits written out as 0s and 1s, and, of many samples, against layer 8's bits laid one behind the other in a text.

const (
	least    = math.MinInt64
	greatest = math.MaxInt64
	all      = uint64(math.MaxUint64)
	half     = uint64(1) << 63
)

// row is a sample, and its bits behind those ahead of it, written out.
type row struct {
	t    int64
	v    uint64
	code string
}

// chain is samples of one kind, one behind the other.
type chain struct {
	kind int
	rows []row
}

func zeros(n int) string { return strings.Repeat("0", n) }

func ones(n int) string { return strings.Repeat("1", n) }

// binary tells a number's 64 bits.
func binary(v uint64) string { return fmt.Sprintf("%064b", v) }

// head is a chain's first row.
func head(t int64, v uint64) row { return row{t, v, binary(uint64(t)) + binary(v)} }

// chains tells what the issue names, written out: their beginnings end at each place inside a byte, and T and V go around.
func chains() []chain {
	return []chain{
		{api.Xor, []row{
			head(100, 7),
			{101, 7, "10 0000001, 0"},
			{102, 7, "0, 0"},
			{103, 6, "0, 11 111111 000000 1"},
			{104, 7, "0, 10 1"},
			{204, 7, "110 001100011, 0"},
			{304, 7, "0, 0"},
			{404, 7, "0, 0"},
			{504, 7, "0, 0"},
			{604, 5, "0, 11 111110 000000 1"},
			{605, 5, "110 110011101, 0"},
			{606, 61, "0, 11 111010 000010 111"},
			{607, 21, "0, 10 101"},
			{608, 5, "0, 10 010"},
			{3517, half | 5, "1111 " + zeros(52) + "101101011100, 11 000000 000000 1"},
		}},
		{api.Ints, []row{
			head(10, 5),
			{20, 8, "10 0001010, 10 0000011"},
			{30, 11, "0, 0"},
			{40, 11, "0, 10 1111101"},
			{50, 11, "0, 0"},
			{60, 111, "0, 110 001100100"},
			{70, 211, "0, 0"},
			{80, 311, "0, 0"},
			{90, 411, "0, 0"},
			{91, 411, "10 1110111, 110 110011100"},
			{3000, 411, "1111 " + zeros(52) + "101101011100, 0"},
			{3001, 1411, "1111 " + ones(52) + "010010100100, 1110 001111101000"},
		}},
		{api.Xor, []row{
			head(least, 0),
			{greatest, all, "10 1111111, 11 000000 111111 " + ones(64)},
		}},
		{api.Xor, []row{
			head(least, all),
			{-1, all, "1111 0" + ones(63) + ", 0"},
			{greatest, all - 1, "10 0000001, 11 111111 000000 1"},
		}},
		{api.Ints, []row{
			head(least, all),
			{greatest, half - 1, "10 1111111, 1111 1" + zeros(63)},
		}},
		{api.Ints, []row{
			head(least, 0),
			{0, half, "1111 1" + zeros(63) + ", 1111 1" + zeros(63)},
			{1, half + 1, "1111 1" + zeros(62) + "1, 1111 1" + zeros(62) + "1"},
			{greatest, half, "1111 0" + ones(61) + "01, 10 1111110"},
		}},
		{api.Ints, []row{
			head(-1, 0),
			{0, all, "10 0000001, 10 1111111"},
			{1, 0, "0, 10 0000010"},
			{2, 1, "0, 0"},
		}},
	}
}

// list tells a chain's samples, and the text of all their bits.
func (c chain) list() ([]api.Sample, string) {
	var list []api.Sample
	var text strings.Builder
	for _, r := range c.rows {
		list = append(list, api.Sample{T: r.t, V: r.v})
		text.WriteString(strings.NewReplacer(" ", "", ",", "").Replace(r.code))
	}
	return list, text.String()
}

// beginnings tells each chain's beginnings, all their bits written out.
func beginnings(do func(kind int, list []api.Sample, text string)) {
	for _, c := range chains() {
		for n := range c.rows {
			list, text := chain{c.kind, c.rows[:n+1]}.list()
			do(c.kind, list, text)
		}
	}
}

// made tells a text's bytes: 0s fill up the last one, and no byte is without a bit of the text.
func made(text string) []byte {
	b := make([]byte, (len(text)+7)/8)
	for i, c := range text {
		if c == '1' {
			b[i/8] |= 128 >> (i % 8)
		}
	}
	return b
}

// textOf tells the text of all samples' bits, by layer 8's words.
func textOf(t *testing.T, kind int, list []api.Sample) string {
	t.Helper()
	var text strings.Builder
	var s kinds.State
	for i, x := range list {
		code, next, err := kinds.Put(kind, s, x)
		if err != nil {
			t.Fatalf("%d, the %d-th of %d, %v: %v", kind, i, len(list), x, err)
		}
		var bytesText strings.Builder
		for _, c := range code.B {
			fmt.Fprintf(&bytesText, "%08b", c)
		}
		text.WriteString(bytesText.String()[:code.N])
		s = next
	}
	return text.String()
}

// short tells a list as far as a test's output needs it.
func short(list []api.Sample) string {
	return fmt.Sprintf("%d samples from %v", len(list), list[:min(4, len(list))])
}

// hold fails the test, if Encode tells anything but these bytes.
func hold(t *testing.T, kind int, list []api.Sample, want []byte) {
	t.Helper()
	if b, err := chunk.Encode(kind, list); err != nil || !bytes.Equal(b, want) {
		t.Fatalf("Encode(%d, %s): %d bytes from %x, %v; want %d from %x", kind, short(list), len(b), b[:min(40, len(b))], err, len(want), want[:min(40, len(want))])
	}
}

// holdError fails the test, if Encode tells anything but this error, or any bytes.
func holdError(t *testing.T, kind int, list []api.Sample, want api.Code) {
	t.Helper()
	b, err := chunk.Encode(kind, list)
	if code, ok := err.(api.Code); !ok || code != want || len(b) != 0 {
		t.Fatalf("Encode(%d, %s): %d bytes, %v; want %v", kind, short(list), len(b), err, want)
	}
}

func bothKinds() []int { return []int{api.Xor, api.Ints} }

// noKinds tells numbers that are no kind; some of them would be one, if bits of them were lost.
func noKinds() []int {
	list := []int{0, 3, 4, 5, 7, 10, -1, -2, -3, 257, 258, -255, -254, 1<<16 + 1, 1<<16 + 2, 1<<32 + 1, 1<<32 + 2}
	return append(list, math.MinInt, math.MinInt+1, math.MinInt+2, math.MaxInt, math.MaxInt-1, math.MaxInt32, math.MinInt32)
}

// mixer tells numbers that hang on a start alone, the lowest bits as mixed as the highest ones.
func mixer(start uint64) func() uint64 {
	v := start
	return func() uint64 {
		v = v*6364136223846793005 + 1442695040888963407
		x := v
		x ^= x >> 32
		x *= 0xd6e8feb86659fd93
		return x ^ x>>32
	}
}

// walk tells n samples of rising times: steps of several sizes, as far as n of them have room, and values that stay, go on alike, or jump.
func walk(start uint64, n int) []api.Sample {
	next := mixer(start)
	room := all / uint64(n)
	x := api.Sample{T: least + int64(next()%9), V: next()}
	d, e := uint64(1), uint64(0)
	list := make([]api.Sample, n)
	for i := range list {
		list[i] = x
		switch next() % 6 {
		case 0, 1, 2: // as before
		case 3:
			d = next() % 9
		case 4:
			d += next() % 600
		default:
			d = next() >> (next() % 64)
		}
		switch next() % 8 {
		case 0, 1, 2: // as before
		case 3:
			e = 0
		case 4:
			e += next()%9 - 4
		case 5:
			e += next()%5000 - 2500
		default:
			e = next() >> (next() % 64) << (next() % 20)
		}
		d = d%(room-9) + 1
		x = api.Sample{T: x.T + int64(d), V: x.V + e}
	}
	return list
}

// even tells n samples whose times are 1 apart, all of one value.
func even(n int) []api.Sample {
	list := make([]api.Sample, n)
	for i := range list {
		list[i] = api.Sample{T: int64(i) - 70, V: 9}
	}
	return list
}

func TestWrittenOut(t *testing.T) {
	beginnings(func(kind int, list []api.Sample, text string) {
		hold(t, kind, list, made(text))
	})
}

// The lists that are written out end at each place inside a byte, and at its end; else their test would be worth less.
func TestWrittenOutEndsAtEachPlace(t *testing.T) {
	ends := map[[2]int]bool{}
	beginnings(func(kind int, _ []api.Sample, text string) {
		ends[[2]int{kind, len(text) % 8}] = true
	})
	if len(ends) != 16 {
		t.Errorf("only %v", ends)
	}
}

func TestBytesWrittenOut(t *testing.T) {
	list := []api.Sample{{T: 0x0123456789abcdef, V: 0xfedcba9876543210}, {T: 0x0123456789abcdf0, V: 0xfedcba9876543210}, {T: 0x0123456789abcdf1, V: 0xfedcba9876543210}}
	want := []byte{1, 0x23, 0x45, 0x67, 0x89, 0xab, 0xcd, 0xef, 0xfe, 0xdc, 0xba, 0x98, 0x76, 0x54, 0x32, 0x10, 0x80, 0x80}
	for _, kind := range bothKinds() {
		hold(t, kind, list[:1], want[:16])
		hold(t, kind, list[:2], want)
		hold(t, kind, list, want)
	}
	// 144 bits fill 18 bytes, and no byte of 0s stands behind them; one sample more begins another one.
	for _, kind := range bothKinds() {
		hold(t, kind, even(5), append(made(binary(all-69)+binary(9)), 0x80, 0x80))
		hold(t, kind, even(6), append(made(binary(all-69)+binary(9)), 0x80, 0x80, 0))
	}
}

// One sample is 16 bytes, whatever it is.
func TestOneSample(t *testing.T) {
	ends := []uint64{0, 1, 2, 255, all, all - 1, half, half - 1, half + 1, 1 << 32, 0x0123456789abcdef}
	for _, at := range ends {
		for _, v := range ends {
			list := []api.Sample{{T: int64(at), V: v}}
			for _, kind := range bothKinds() {
				hold(t, kind, list, made(binary(at)+binary(v)))
			}
		}
	}
}

// Each second sample, T and V being at the ends of what they may be.
func TestTwoSamples(t *testing.T) {
	ends := []uint64{half, half + 1, all - 64, all, 0, 1, 63, 64, 65, 256, 257, 2048, 2049, half - 2, half - 1}
	for i, from := range ends {
		for _, to := range ends[i+1:] {
			for _, v := range ends {
				for _, w := range ends {
					list := []api.Sample{{T: int64(from), V: v}, {T: int64(to), V: w}}
					for _, kind := range bothKinds() {
						hold(t, kind, list, made(textOf(t, kind, list)))
					}
				}
			}
		}
	}
}

func TestIsByTheWordsOfLayer8(t *testing.T) {
	ends := map[[2]int]int{}
	for start := range uint64(300) {
		for _, kind := range bothKinds() {
			for _, n := range []int{1, 2, 3, 4, 5, 6, 7, 8, 9, 31, 32, 33, 100, 255, 256, 257} {
				list := walk(start, n)
				text := textOf(t, kind, list)
				hold(t, kind, list, made(text))
				ends[[2]int{kind, len(text) % 8}]++
			}
		}
	}
	for _, kind := range bothKinds() {
		for place := range 8 {
			if ends[[2]int{kind, place}] < 50 {
				t.Errorf("%d: only %d lists end %d bits behind a byte", kind, ends[[2]int{kind, place}], place)
			}
		}
	}
}

// What fills up the last byte is 0, and less than a byte, though the bits ahead are 1s.
func TestFilledUpWith0s(t *testing.T) {
	places := map[int]bool{}
	for n := 1; n <= 64; n++ {
		// By Xor, V's window is all 1s, and the last n bits are so.
		list := []api.Sample{{T: 1, V: 0}, {T: 2, V: all >> (64 - n)}}
		b, err := chunk.Encode(api.Xor, list)
		size := 128 + 9 + 14 + n
		if err != nil || len(b) != (size+7)/8 {
			t.Fatalf("%d bits: %d bytes, %v", size, len(b), err)
		}
		last := fmt.Sprintf("%016b", int(b[len(b)-2])<<8|int(b[len(b)-1]))
		fill := 8*len(b) - size
		if !strings.HasSuffix(last, "1"+zeros(fill)) {
			t.Fatalf("%d bits: the last ones are %s", size, last)
		}
		places[fill] = true
	}
	if len(places) != 8 {
		t.Errorf("only %v", places)
	}
}

// The most samples that there may be, and one less, are told whole.
func TestTheMostSamples(t *testing.T) {
	for _, kind := range bothKinds() {
		for _, list := range [][]api.Sample{walk(3, 65535), walk(4, 65534), even(65535), even(65534)} {
			hold(t, kind, list, made(textOf(t, kind, list)))
		}
		// 128 bits of the first one, 10 of the second one, and 2 of each other one: 131204.
		hold(t, kind, even(65535), append(made(binary(all-69)+binary(9)+"1000000010"), make([]byte, 16383)...))
	}
}

// As many samples as there may be, of wide codes: each T's has 68 bits but the second one's, and each V's 68 or more.
func TestTheMostSamplesOfWideCodes(t *testing.T) {
	// By Xor, no V fits into the window of the one ahead.
	turns := [2]uint64{half | 2, half/2 | 1}
	steps := [2]int64{1, 1<<40 + 1}
	list := make([]api.Sample, 65535)
	x := api.Sample{T: least}
	for i := range list {
		list[i] = x
		x.T += steps[i%2]
		x.V ^= turns[i%2]
	}
	for _, kind := range bothKinds() {
		want := made(textOf(t, kind, list))
		if len(want) < 65534*17 {
			t.Errorf("%d: only %d bytes", kind, len(want))
		}
		hold(t, kind, list, want)
	}
}

// wrong tells two lists of n samples: no time is above the one ahead of it.
func wrong(n int) [][]api.Sample {
	falling := make([]api.Sample, n)
	for i := range falling {
		falling[i].T = int64(-i)
	}
	return [][]api.Sample{make([]api.Sample, n), falling}
}

// No samples are told ahead of a kind that is none.
func TestOfNoSamples(t *testing.T) {
	some := even(3)
	for _, list := range [][]api.Sample{nil, {}, some[:0], some[3:], make([]api.Sample, 0, 9)} {
		for _, kind := range append(noKinds(), bothKinds()...) {
			holdError(t, kind, list, api.ErrArg)
		}
	}
}

// Too many samples are told ahead of a kind that is none, and of times that don't rise.
func TestOfTooManySamples(t *testing.T) {
	for _, n := range []int{65536, 65537, 65538, 65536 + 256, 2*65536 - 1, 2 * 65536, 2*65536 + 1, 1 << 20} {
		for _, list := range append(wrong(n), even(n)) {
			for _, kind := range []int{api.Xor, api.Ints, 0, 3, -1, math.MinInt, math.MaxInt} {
				holdError(t, kind, list, api.ErrArg)
			}
		}
	}
	late := even(65536)
	late[65535].T = late[65534].T
	early := even(65536)
	early[1].T = early[0].T
	for _, kind := range append(noKinds(), bothKinds()...) {
		holdError(t, kind, late, api.ErrArg)
		holdError(t, kind, early, api.ErrArg)
	}
}

// What is no kind is told ahead of times that don't rise, however many samples there may be.
func TestOfNoKind(t *testing.T) {
	for _, kind := range noKinds() {
		for _, n := range []int{1, 2, 3, 9, 300} {
			for _, list := range append(wrong(n), even(n), walk(5, n)) {
				holdError(t, kind, list, api.ErrKind)
			}
		}
	}
	for _, kind := range []int{0, 3, -1, math.MinInt, math.MaxInt} {
		for _, list := range append(wrong(65535), even(65535)) {
			holdError(t, kind, list, api.ErrKind)
		}
	}
}

func TestOfNoOrderWrittenOut(t *testing.T) {
	for _, times := range [][]int64{
		{0, 0},
		{0, -1},
		{1, 0},
		{least, least},
		{greatest, greatest},
		{greatest, least},
		{least + 1, least},
		{0, least},
		{-1, least},
		{1, 2, 2},
		{1, 3, 2},
		{1, 2, 1},
		{1, 2, 0},
		{1, 1, 2},
		{2, 1, 3},
		{5, 1, 2, 3, 4},
		{1, 2, 3, 4, 4},
		{1, 2, 5, 3, 6},
		{1, 2, 4, 3, 6},
		{1, 9, 17, 10, 18},
		// The step of the one ahead would go around, and 1 to 2^63 of it back.
		{0, greatest, least},
		{0, greatest, -2},
		{least, greatest, least},
		{least, 0, least},
		{least, greatest, greatest},
		{least, greatest, greatest - 1},
		{least, -1, -2},
		{0, 1 << 32, 1},
		{0, 1<<32 + 5, 1 << 32},
	} {
		for _, v := range []uint64{0, 1, all, half} {
			var list []api.Sample
			for i, at := range times {
				list = append(list, api.Sample{T: at, V: v * uint64(i)})
			}
			for _, kind := range bothKinds() {
				holdError(t, kind, list, api.ErrOrder)
			}
		}
	}
}

// One time alone isn't above the one ahead of it: at the second sample, in the middle, and at the last one.
func TestOfNoOrderAtEachPlace(t *testing.T) {
	for _, n := range []int{2, 3, 4, 5, 9, 33, 65535} {
		list := even(n)
		if n < 65535 {
			list = walk(uint64(n), n)
		}
		places := []int{1, n / 3, n / 2, n - 2, n - 1}
		for _, i := range places {
			if i < 1 {
				continue
			}
			ahead := list[i-1].T
			for _, at := range []int64{ahead, ahead - 1, ahead - 2, ahead/2 - 1<<62, least} {
				bad := slices.Clone(list)
				if bad[i].T = at; at > ahead {
					continue
				}
				for _, kind := range bothKinds() {
					holdError(t, kind, bad, api.ErrOrder)
				}
			}
		}
	}
}

// A step of 1 is enough, wherever it is.
func TestOfTimesThatRiseBy1(t *testing.T) {
	for _, from := range []int64{least, least + 1, -2, -1, 0, 1, greatest - 3} {
		list := []api.Sample{{T: from}, {T: from + 1}, {T: from + 2}, {T: from + 3}}
		for _, kind := range bothKinds() {
			hold(t, kind, list, append(made(binary(uint64(from))+zeros(64)), 0x80, 0x80))
		}
	}
}

// turn turns every bit of a slice's memory, that behind its end, too.
func turn(b []byte) {
	b = b[:cap(b)]
	for i := range b {
		b[i] = ^b[i]
	}
}

// What is handed in stands as it was, and what stands around it: this is nothing to the answer, either.
func TestTheListStaysAsItWas(t *testing.T) {
	calls := func(do func(kind int, list []api.Sample)) {
		beginnings(func(kind int, list []api.Sample, _ string) { do(kind, list) })
		for _, n := range []int{0, 1, 2, 8, 100} {
			for _, list := range append(wrong(n), walk(uint64(n), max(n, 1)), even(n)) {
				for _, kind := range []int{api.Xor, api.Ints, 0, 3} {
					do(kind, list)
				}
			}
		}
		do(api.Xor, even(65536))
	}
	calls(func(kind int, list []api.Sample) {
		want, wantErr := chunk.Encode(kind, slices.Clone(list))
		for _, around := range []api.Sample{{}, {T: greatest, V: all}, {T: least, V: half}} {
			room := slices.Repeat([]api.Sample{around}, 3)
			memory := slices.Concat(room, list, room)
			before := slices.Clone(memory)
			b, err := chunk.Encode(kind, memory[3:3+len(list)])
			if !slices.Equal(memory, before) {
				t.Fatalf("Encode(%d, %s): the list was changed", kind, short(list))
			}
			if !bytes.Equal(b, want) || err != wantErr {
				t.Fatalf("Encode(%d, %s): %x, %v; want %x, %v", kind, short(list), b, err, want, wantErr)
			}
			turn(b)
			if !slices.Equal(memory, before) {
				t.Fatalf("Encode(%d, %s): the list was changed by the bytes", kind, short(list))
			}
		}
	})
}

// A byte that is changed in an answer changes no other one, neither earlier nor later.
func TestAnswersAreNewMemory(t *testing.T) {
	beginnings(func(kind int, list []api.Sample, text string) {
		one, _ := chunk.Encode(kind, list)
		other, _ := chunk.Encode(kind, list)
		turn(one)
		if !bytes.Equal(other, made(text)) {
			t.Fatalf("%d, %s: two answers share memory", kind, short(list))
		}
		hold(t, kind, list, made(text))
		for i := range other {
			other[i]++
			hold(t, kind, list, made(text))
		}
	})
}

// What was told stays as it was, whatever is asked behind it, and whatever becomes of the list.
func TestWhatWasToldStays(t *testing.T) {
	var told [][]byte
	beginnings(func(kind int, list []api.Sample, text string) {
		b, _ := chunk.Encode(kind, list)
		for i := range list {
			list[i] = api.Sample{T: int64(i), V: 3}
		}
		if !bytes.Equal(b, made(text)) {
			t.Fatalf("%d, %s: the bytes hang on the list behind the call", kind, text)
		}
		told = append(told, b)
		chunk.Encode(kind, wrong(5)[0])
		chunk.Encode(3, list)
		chunk.Encode(kind, nil)
	})
	beginnings(func(kind int, list []api.Sample, text string) {
		if !bytes.Equal(told[0], made(text)) {
			t.Fatalf("%d, %s: %x, want %x", kind, short(list), told[0], made(text))
		}
		turn(told[0])
		told = told[1:]
	})
}

// A call hangs on what it is given alone, not on what an earlier one saw, nor on its error.
func TestNothingIsKept(t *testing.T) {
	list := []api.Sample{{T: 1, V: 7}, {T: 2, V: 7}, {T: 3, V: 7}}
	want := append(made(binary(1)+binary(7)), 0x80, 0x80)
	for range 3 {
		hold(t, api.Xor, list, want)
		hold(t, api.Ints, list, want)
		list[2].T = 2
		holdError(t, api.Xor, list, api.ErrOrder)
		hold(t, api.Ints, list[:2], want)
		holdError(t, 3, list[:2], api.ErrKind)
		list[2] = api.Sample{T: 4, V: 7}
		hold(t, api.Xor, list, append(made(binary(1)+binary(7)), 0x80, 0xa0, 0x20))
		holdError(t, api.Ints, nil, api.ErrArg)
		list[2] = api.Sample{T: 3, V: 7}
	}
}

// holdUnlike fails the test, if two lists of as many samples have the same bytes.
func holdUnlike(t *testing.T, kind int, x, y []api.Sample) {
	t.Helper()
	b, err := chunk.Encode(kind, x)
	c, err2 := chunk.Encode(kind, y)
	if err != nil || err2 != nil || bytes.Equal(b, c) {
		t.Fatalf("Encode(%d): %s and %s have the bytes %x, %x; %v, %v", kind, short(x), short(y), b, c, err, err2)
	}
}

// rises tells whether the times of the list rise.
func rises(list []api.Sample) bool {
	for i := range len(list) - 1 {
		if list[i+1].T <= list[i].T {
			return false
		}
	}
	return true
}

// Each bit of T and V is to be seen in the bytes: of the first sample, of a middle one, and of the last one.
func TestEachBitIsSeen(t *testing.T) {
	held := 0
	for _, n := range []int{1, 2, 3, 5, 40} {
		for start := range uint64(8) {
			list := walk(start, n)
			for _, i := range []int{0, n / 2, n - 1} {
				for bit := range 64 {
					other := slices.Clone(list)
					other[i].V ^= 1 << bit
					later := slices.Clone(list)
					later[i].T ^= 1 << bit
					for _, kind := range bothKinds() {
						holdUnlike(t, kind, list, other)
						if rises(later) {
							holdUnlike(t, kind, list, later)
							held++
						}
					}
				}
			}
		}
	}
	if held < 2000 {
		t.Errorf("only %d times", held)
	}
}

// A sample that is another one by a little, or by much, makes other bytes, also of lists that are else all alike.
func TestEachSampleIsSeen(t *testing.T) {
	for _, n := range []int{1, 2, 3, 4, 17, 400, 65535} {
		list := make([]api.Sample, n)
		for i := range list {
			list[i] = api.Sample{T: 10 * int64(i), V: 5}
		}
		for _, i := range []int{0, n / 2, n - 1} {
			for _, d := range []int64{1, -1, 2, -9, 9} {
				earlier, other := slices.Clone(list), slices.Clone(list)
				earlier[i].T += d
				other[i].V += uint64(d)
				for _, kind := range bothKinds() {
					holdUnlike(t, kind, list, earlier)
					holdUnlike(t, kind, list, other)
				}
			}
		}
	}
}

// All lists of a few times and values: of any two of as many samples the bytes are unlike.
func TestAllListsOfAFew(t *testing.T) {
	times := []int64{least, -1, 0, 1, 2, 64, greatest}
	values := []uint64{0, 1, 2, 3, half, all}
	lists := [][]api.Sample{{}}
	for n := 1; n <= 3; n++ {
		var longer [][]api.Sample
		for _, list := range lists {
			for _, at := range times {
				for _, v := range values {
					next := append(slices.Clone(list), api.Sample{T: at, V: v})
					if rises(next) {
						longer = append(longer, next)
					}
				}
			}
		}
		lists = longer
		for _, kind := range bothKinds() {
			whose := map[string][]api.Sample{}
			for _, list := range lists {
				b, err := chunk.Encode(kind, list)
				if other := whose[string(b)]; err != nil || other != nil {
					t.Fatalf("%d: %v and %v have the bytes %x; %v", kind, list, other, b, err)
				}
				whose[string(b)] = list
			}
		}
	}
	if len(lists) != 7560 {
		t.Errorf("%d lists", len(lists))
	}
}

// A list's beginning has no more bytes than the list, and whole ones of it are those of the list.
func TestABeginningHasNoMoreBytes(t *testing.T) {
	for start := range uint64(60) {
		list := walk(start, 90)
		if start%4 == 0 {
			list = even(90)
		}
		for _, kind := range bothKinds() {
			var ahead []byte
			for n := 1; n <= len(list); n++ {
				b, err := chunk.Encode(kind, list[:n])
				if err != nil || len(b) < len(ahead) || len(ahead) > 0 && !bytes.HasPrefix(b, ahead[:len(ahead)-1]) {
					t.Fatalf("%d, %d of %s: %x, %v; ahead of it %x", kind, n, short(list), b, err, ahead)
				}
				ahead = b
			}
		}
	}
}

// What was encoded is got again, sample by sample, and less than a byte of 0s is behind.
func TestWhatWasEncodedIsGot(t *testing.T) {
	for start := range uint64(100) {
		list := walk(start, 1+int(start)*3)
		for _, kind := range bothKinds() {
			b, err := chunk.Encode(kind, list)
			if err != nil {
				t.Fatal(kind, short(list), err)
			}
			var s kinds.State
			at := 0
			for i, want := range list {
				x, next, n, err := kinds.Get(kind, s, b, at)
				if x != want || err != nil {
					t.Fatalf("%d, the %d-th of %s: %v, %v; want %v", kind, i, short(list), x, err, want)
				}
				s, at = next, at+n
			}
			if left := 8*len(b) - at; left > 7 || b[len(b)-1]<<(8-left) != 0 {
				t.Fatalf("%d, %s: %d bits are left, %x", kind, short(list), left, b[len(b)-1])
			}
		}
	}
}
