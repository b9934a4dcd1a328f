package pack_test

import (
	"bytes"
	"encoding/binary"
	"fmt"
	"hash/crc32"
	"math"
	"slices"
	"sync"
	"testing"

	"gaiter/api"
	"gaiter/chunk"
	"gaiter/crc"
	"gaiter/index"
	"gaiter/pack"
	"gaiter/slow"
)

// The tests hold Pack against bytes written out; against an index and chunks that they lay themselves, out of layers 9, 13 and 14; and against what a block tells that is read by the library's means.

const (
	least    = math.MinInt64
	greatest = math.MaxInt64
	all      = uint64(math.MaxUint64)
	half     = uint64(1) << 63
)

// form is samples, how they are packed, and their block written out.
type form struct {
	kind, size int
	list       []api.Sample
	b          []byte
}

// written tells blocks written out: an index's front, its chunks and its sum in a line each; of a chunk its first sample, its others and its sum.
func written() []form {
	steps := []api.Sample{{T: 10, V: 5}, {T: 20, V: 8}, {T: 30, V: 11}}
	around := []api.Sample{{T: -1, V: 7}, {T: 0, V: 7}, {T: 1, V: 7}, {T: 2, V: 6}, {T: 3, V: 7}}
	ends := []api.Sample{{T: least, V: 0}, {T: greatest, V: all}}
	far := []api.Sample{{T: least, V: all}, {T: -1, V: all}, {T: 0, V: 0}, {T: 1, V: 1}, {T: greatest, V: 1}}
	wide := []api.Sample{{T: 100, V: 5}, {T: 300, V: 5}, {T: 600, V: 5}}
	return []form{
		{1, 1, nil, []byte{
			71, 84, 83, 49, 1, 0,
			139, 6, 236, 214}},
		{2, 5, nil, []byte{
			71, 84, 83, 49, 2, 0,
			160, 43, 191, 21}},
		{1, 1, steps[:1], []byte{
			71, 84, 83, 49, 1, 1,
			0, 0, 0, 0, 0, 0, 0, 10, 0, 1, 20,
			43, 33, 215, 218,
			0, 0, 0, 0, 0, 0, 0, 10, 0, 0, 0, 0, 0, 0, 0, 5,
			9, 255, 53, 68}},
		{2, 65535, steps[:1], []byte{
			71, 84, 83, 49, 2, 1,
			0, 0, 0, 0, 0, 0, 0, 10, 0, 1, 20,
			150, 235, 187, 20,
			0, 0, 0, 0, 0, 0, 0, 10, 0, 0, 0, 0, 0, 0, 0, 5,
			9, 255, 53, 68}},
		{2, 3, steps, []byte{
			71, 84, 83, 49, 2, 1,
			0, 0, 0, 0, 0, 0, 0, 10, 20, 3, 23,
			38, 251, 131, 128,
			0, 0, 0, 0, 0, 0, 0, 10, 0, 0, 0, 0, 0, 0, 0, 5,
			133, 64, 192,
			139, 2, 133, 226}},
		{2, 2, steps, []byte{
			71, 84, 83, 49, 2, 2,
			0, 0, 0, 0, 0, 0, 0, 10, 10, 2, 23,
			0, 0, 0, 0, 0, 0, 0, 30, 0, 1, 20,
			143, 179, 76, 35,
			0, 0, 0, 0, 0, 0, 0, 10, 0, 0, 0, 0, 0, 0, 0, 5,
			133, 64, 192,
			139, 2, 133, 226,
			0, 0, 0, 0, 0, 0, 0, 30, 0, 0, 0, 0, 0, 0, 0, 11,
			31, 107, 11, 62}},
		{2, 1, steps, []byte{
			71, 84, 83, 49, 2, 3,
			0, 0, 0, 0, 0, 0, 0, 10, 0, 1, 20,
			0, 0, 0, 0, 0, 0, 0, 20, 0, 1, 20,
			0, 0, 0, 0, 0, 0, 0, 30, 0, 1, 20,
			105, 145, 24, 117,
			0, 0, 0, 0, 0, 0, 0, 10, 0, 0, 0, 0, 0, 0, 0, 5,
			9, 255, 53, 68,
			0, 0, 0, 0, 0, 0, 0, 20, 0, 0, 0, 0, 0, 0, 0, 8,
			19, 76, 208, 26,
			0, 0, 0, 0, 0, 0, 0, 30, 0, 0, 0, 0, 0, 0, 0, 11,
			31, 107, 11, 62}},
		{1, 3, around, []byte{
			71, 84, 83, 49, 1, 2,
			255, 255, 255, 255, 255, 255, 255, 255, 2, 3, 22,
			0, 0, 0, 0, 0, 0, 0, 2, 1, 2, 23,
			163, 211, 237, 5,
			255, 255, 255, 255, 255, 255, 255, 255, 0, 0, 0, 0, 0, 0, 0, 7,
			128, 128,
			2, 207, 116, 41,
			0, 0, 0, 0, 0, 0, 0, 2, 0, 0, 0, 0, 0, 0, 0, 6,
			128, 255, 129,
			251, 246, 93, 104}},
		{1, 2, ends, []byte{
			71, 84, 83, 49, 1, 1,
			128, 0, 0, 0, 0, 0, 0, 0, 255, 255, 255, 255, 255, 255, 255, 255, 255, 1, 2, 31,
			175, 50, 165, 62,
			128, 0, 0, 0, 0, 0, 0, 0, 0, 0, 0, 0, 0, 0, 0, 0,
			191, 224, 127, 255, 255, 255, 255, 255, 255, 255, 254,
			99, 166, 185, 11}},
		{1, 1, ends, []byte{
			71, 84, 83, 49, 1, 2,
			128, 0, 0, 0, 0, 0, 0, 0, 0, 1, 20,
			127, 255, 255, 255, 255, 255, 255, 255, 0, 1, 20,
			214, 224, 198, 214,
			128, 0, 0, 0, 0, 0, 0, 0, 0, 0, 0, 0, 0, 0, 0, 0,
			176, 70, 166, 161,
			127, 255, 255, 255, 255, 255, 255, 255, 255, 255, 255, 255, 255, 255, 255, 255,
			99, 78, 43, 238}},
		{2, 2, far, []byte{
			71, 84, 83, 49, 2, 3,
			128, 0, 0, 0, 0, 0, 0, 0, 255, 255, 255, 255, 255, 255, 255, 255, 127, 2, 29,
			0, 0, 0, 0, 0, 0, 0, 0, 1, 2, 23,
			127, 255, 255, 255, 255, 255, 255, 255, 0, 1, 20,
			240, 69, 226, 176,
			128, 0, 0, 0, 0, 0, 0, 0, 255, 255, 255, 255, 255, 255, 255, 255,
			247, 255, 255, 255, 255, 255, 255, 255, 240,
			164, 48, 59, 180,
			0, 0, 0, 0, 0, 0, 0, 0, 0, 0, 0, 0, 0, 0, 0, 0,
			128, 192, 64,
			134, 27, 68, 49,
			127, 255, 255, 255, 255, 255, 255, 255, 0, 0, 0, 0, 0, 0, 0, 1,
			80, 47, 27, 13}},
		{1, 2, wide, []byte{
			71, 84, 83, 49, 1, 2,
			0, 0, 0, 0, 0, 0, 0, 100, 200, 1, 2, 22,
			0, 0, 0, 0, 0, 0, 2, 88, 0, 1, 20,
			193, 86, 167, 5,
			0, 0, 0, 0, 0, 0, 0, 100, 0, 0, 0, 0, 0, 0, 0, 5,
			204, 128,
			11, 42, 243, 126,
			0, 0, 0, 0, 0, 0, 2, 88, 0, 0, 0, 0, 0, 0, 0, 5,
			81, 174, 140, 137}},
	}
}

func bothKinds() []int { return []int{api.Xor, api.Ints} }

// sizes tells how many samples a chunk has in the tests.
func sizes() []int { return []int{1, 2, 3, 7, 32, 33, 65535} }

// noKinds tells numbers that are no kind; some of them would be one, if bits of them were lost.
func noKinds() []int {
	list := []int{0, 3, 4, 5, 7, 10, -1, -2, -3, 255, 256, 257, 258, -255, -254, 1<<16 + 1, 1<<16 + 2, 1<<32 + 1, 1<<32 + 2}
	return append(list, math.MinInt, math.MinInt+1, math.MinInt+2, math.MaxInt, math.MaxInt-1, math.MaxInt32, math.MinInt32)
}

// noSizes tells numbers that size may not be; some of them would be one, if bits of them were lost.
func noSizes() []int {
	list := []int{0, -1, -2, -3, -32, -65534, -65535, -65536, 65536, 65537, 65538, 1<<24 + 1, 1 << 31, 1<<31 + 1, 1 << 32, 1<<32 + 1, 1<<32 + 65535}
	return append(list, math.MinInt, math.MinInt+1, math.MinInt+2, math.MaxInt, math.MaxInt-1, math.MaxInt32, math.MinInt32, math.MinInt32+1)
}

// mixer tells numbers that hang on a start alone, the lowest bits as mixed as the highest ones.
func mixer(start uint64) func() uint64 {
	v := start
	return func() uint64 {
		v = v*6364136223846793005 + 1442695040888963407
		x := v
		x ^= x >> 32
		x *= 0xd6e8feb86659fd93
		return x ^ x>>32
	}
}

// walk tells n samples of rising times: steps of several sizes, as far as n of them have room, and values that stay, go on alike, or jump.
func walk(start uint64, n int) []api.Sample {
	next := mixer(start)
	room := all / uint64(max(n, 1))
	x := api.Sample{T: least + int64(next()%9), V: next()}
	d, e := uint64(1), uint64(0)
	list := make([]api.Sample, n)
	for i := range list {
		list[i] = x
		switch next() % 6 {
		case 0, 1, 2: // as before
		case 3:
			d = next() % 9
		case 4:
			d += next() % 600
		default:
			d = next() >> (next() % 64)
		}
		switch next() % 8 {
		case 0, 1, 2: // as before
		case 3:
			e = 0
		case 4:
			e += next()%9 - 4
		case 5:
			e += next()%5000 - 2500
		default:
			e = next() >> (next() % 64) << (next() % 20)
		}
		d = d%(room-9) + 1
		x = api.Sample{T: x.T + int64(d), V: x.V + e}
	}
	return list
}

// even tells n samples whose times are 1 apart, from below 0 on, all of one value.
func even(n int) []api.Sample {
	list := make([]api.Sample, n)
	for i := range list {
		list[i] = api.Sample{T: int64(i) - 70, V: 9}
	}
	return list
}

// wrong tells two lists of n samples: no time is above the one ahead of it.
func wrong(n int) [][]api.Sample {
	falling := make([]api.Sample, n)
	for i := range falling {
		falling[i].T = int64(-i)
	}
	return [][]api.Sample{make([]api.Sample, n), falling}
}

// cut tells each chunk's samples, in memory of their own.
func cut(list []api.Sample, size int) [][]api.Sample {
	var parts [][]api.Sample
	for i, x := range list {
		if i%size == 0 {
			parts = append(parts, nil)
		}
		parts[len(parts)-1] = append(parts[len(parts)-1], x)
	}
	return parts
}

// lay tells samples' block, out of layers 9, 13 and 14.
func lay(t *testing.T, kind int, list []api.Sample, size int) []byte {
	t.Helper()
	h := index.Head{Kind: kind}
	var rest []byte
	for _, part := range cut(list, size) {
		b, err := chunk.Encode(kind, part)
		if err != nil {
			t.Fatalf("%d, %s: %v", kind, short(part), err)
		}
		b = binary.BigEndian.AppendUint32(b, crc.Sum(b))
		h.List = append(h.List, index.Entry{Min: part[0].T, Max: part[len(part)-1].T, Count: len(part), Len: len(b)})
		rest = append(rest, b...)
	}
	front, err := index.Put(h)
	if err != nil {
		t.Fatalf("%d, %s by %d: %v", kind, short(list), size, err)
	}
	return append(front, rest...)
}

// short tells a list as far as a test's output needs it.
func short(list []api.Sample) string {
	return fmt.Sprintf("%d samples from %v", len(list), list[:min(4, len(list))])
}

// brief tells bytes as far as a test's output needs them.
func brief(b []byte) string { return fmt.Sprintf("%d bytes %v", len(b), b[:min(80, len(b))]) }

// hold fails the test, if Pack tells anything but this block.
func hold(t *testing.T, kind int, list []api.Sample, size int, want []byte) {
	t.Helper()
	if b, err := pack.Pack(kind, list, size); err != nil || !bytes.Equal(b, want) {
		t.Fatalf("Pack(%d, %s, %d): %s, %v; want %s", kind, short(list), size, brief(b), err, brief(want))
	}
}

// holdLaid fails the test, if Pack tells anything but the block that the test lays.
func holdLaid(t *testing.T, kind int, list []api.Sample, size int) {
	t.Helper()
	hold(t, kind, list, size, lay(t, kind, list, size))
}

// holdError fails the test, if Pack tells anything but this error, the value itself, or any bytes.
func holdError(t *testing.T, kind int, list []api.Sample, size int, want api.Code) {
	t.Helper()
	b, err := pack.Pack(kind, list, size)
	if code, ok := err.(api.Code); !ok || code != want || len(b) != 0 {
		t.Fatalf("Pack(%d, %s, %d): %s, %v; want %v", kind, short(list), size, brief(b), err, want)
	}
}

// counts tells how many samples are packed by a size: none, one, the size, one fewer and one more, a multiple of it, and what is left over of 1, of some, and of one less.
func counts(size int) []int {
	list := []int{0, 1, size - 1, size, size + 1, size + size/2, 2*size - 1, 2 * size, 2*size + 1}
	if size < 1000 {
		list = append(list, 3*size, 5*size, 5*size+1, 5*size+size/2, 6*size-1, 16*size, 17*size-1, 127*size, 127*size+1, 128*size, 128*size+1, 129*size)
	}
	slices.Sort(list)
	return slices.Compact(list)
}

func TestExample(t *testing.T) {
	if b, err := pack.Pack(2, nil, 5); len(b) != 10 || err != nil {
		t.Errorf("%v, %v", b, err)
	}
}

func TestWrittenOut(t *testing.T) {
	for _, f := range written() {
		hold(t, f.kind, f.list, f.size, f.b)
		if b := lay(t, f.kind, f.list, f.size); !bytes.Equal(b, f.b) {
			t.Errorf("the test's own block of %s by %d is %v", short(f.list), f.size, b)
		}
	}
}

// No samples are 10 bytes, by any size, told as nil or as empty, with room behind them or none.
func TestOfNoSamples(t *testing.T) {
	some := even(3)
	want := map[int][]byte{
		api.Xor:  {71, 84, 83, 49, 1, 0, 139, 6, 236, 214},
		api.Ints: {71, 84, 83, 49, 2, 0, 160, 43, 191, 21},
	}
	for _, list := range [][]api.Sample{nil, {}, some[:0], some[3:], make([]api.Sample, 0, 9)} {
		for _, kind := range bothKinds() {
			for _, size := range append(sizes(), 65534, 4, 256) {
				hold(t, kind, list, size, want[kind])
			}
		}
	}
}

// One sample, T and V being at the ends of what they may be.
func TestOfOneSample(t *testing.T) {
	ends := []uint64{0, 1, 2, 255, all, all - 1, half, half - 1, half + 1, 1 << 32, 0x0123456789abcdef}
	for _, at := range ends {
		for _, v := range ends {
			list := []api.Sample{{T: int64(at), V: v}}
			body := binary.BigEndian.AppendUint64(binary.BigEndian.AppendUint64(nil, at), v)
			body = binary.BigEndian.AppendUint32(body, crc32.ChecksumIEEE(body))
			for _, kind := range bothKinds() {
				front := append([]byte{71, 84, 83, 49, byte(kind), 1}, body[:8]...)
				front = append(front, 0, 1, 20)
				front = binary.BigEndian.AppendUint32(front, crc32.ChecksumIEEE(front))
				for _, size := range sizes() {
					hold(t, kind, list, size, append(front, body...))
				}
			}
		}
	}
}

// Each way in which what is left over may end, by each size.
func TestOfEachCount(t *testing.T) {
	for _, size := range sizes() {
		for i, n := range counts(size) {
			if size == 65535 && n > 65536 {
				continue
			}
			for _, kind := range bothKinds() {
				holdLaid(t, kind, walk(uint64(i+size), n), size)
				holdLaid(t, kind, even(n), size)
			}
		}
	}
}

// As many samples a chunk as there may be, more than once.
func TestOfMoreThanTheGreatestSize(t *testing.T) {
	for i, n := range counts(65535) {
		if n <= 65536 {
			continue
		}
		holdLaid(t, api.Xor, walk(uint64(i), n), 65535)
		holdLaid(t, api.Ints, even(n), 65535)
	}
	holdLaid(t, api.Ints, walk(1, 3*65535+700), 65535)
	holdLaid(t, api.Xor, walk(2, 3*65534), 65534)
}

// All small counts by all small sizes.
func TestOfSmallNumbers(t *testing.T) {
	for n := range 40 {
		for size := 1; size <= 42; size++ {
			for _, kind := range bothKinds() {
				holdLaid(t, kind, walk(uint64(n), n), size)
			}
		}
	}
}

// Many lists of mixed steps and values, by mixed sizes.
func TestOfMixedSamples(t *testing.T) {
	next := mixer(9)
	for start := range uint64(400) {
		list := walk(start, int(next()%300))
		size := 1 + int(next()>>(next()%60)%310)
		for _, kind := range bothKinds() {
			holdLaid(t, kind, list, size)
		}
	}
}

// edgeTimes tells times that rise, near the ends, around 0, and between.
func edgeTimes() []int64 {
	return []int64{least, least + 1, least + 64, -1 << 62, -1<<32 - 1, -1 << 32, -300, -2, -1, 0, 1, 2, 63, 128, 16384, 1 << 31, 1 << 62, greatest - 1, greatest}
}

// Steps of 1 to 2^64 - 1, in a chunk and between two.
func TestOfStepsBetweenTwo(t *testing.T) {
	values := []uint64{0, all, half, 0x0123456789abcdef}
	times := edgeTimes()
	for i, from := range times {
		for _, to := range times[i+1:] {
			for _, v := range values {
				for _, w := range values {
					list := []api.Sample{{T: from, V: v}, {T: to, V: w}}
					for _, kind := range bothKinds() {
						for size := 1; size <= 3; size++ {
							holdLaid(t, kind, list, size)
						}
					}
				}
			}
		}
	}
}

// Three and four samples: a chunk of two has all there is of T, and others stand right ahead of it, or behind it.
func TestOfStepsAmongSome(t *testing.T) {
	times := edgeTimes()
	values := []uint64{0, all, 1, half, 0x0123456789abcdef}
	for i := range times {
		for k := i + 1; k < len(times); k++ {
			for m := k + 1; m < len(times); m++ {
				list := []api.Sample{{T: times[i], V: values[i%5]}, {T: times[k], V: values[k%5]}, {T: times[m], V: values[(i+m)%5]}}
				if m+1 < len(times) {
					list = append(list, api.Sample{T: times[m+1], V: values[(k+m)%5]})
				}
				for _, kind := range bothKinds() {
					for size := 1; size <= 4; size++ {
						holdLaid(t, kind, list, size)
					}
				}
			}
		}
	}
}

// All edge times in one list, by each size.
func TestOfAllEdgeTimes(t *testing.T) {
	for _, v := range []uint64{0, all, half, 7} {
		var list []api.Sample
		for i, at := range edgeTimes() {
			list = append(list, api.Sample{T: at, V: v * uint64(i%3)})
		}
		for size := 1; size <= len(list)+1; size++ {
			for _, kind := range bothKinds() {
				holdLaid(t, kind, list, size)
			}
		}
	}
}

// A step of 1 is enough, in a chunk and where one ends, wherever it is.
func TestOfTimesThatRiseBy1(t *testing.T) {
	for _, from := range []int64{least, least + 1, -6, -3, -1, 0, 1, 1<<32 - 3, greatest - 6} {
		var list []api.Sample
		for i := range int64(7) {
			list = append(list, api.Sample{T: from + i, V: all})
		}
		for size := 1; size <= 8; size++ {
			for _, kind := range bothKinds() {
				holdLaid(t, kind, list, size)
			}
		}
	}
}

// told is what a block's index tells of a chunk, read by the library's means.
type told struct {
	first           int64
	span, count, of uint64
}

// split tells what an index tells, and the bytes behind it.
func split(t *testing.T, kind int, b []byte) ([]told, []byte) {
	t.Helper()
	if !bytes.HasPrefix(b, []byte{71, 84, 83, 49, byte(kind)}) {
		t.Fatalf("%d: %s", kind, brief(b))
	}
	rest := b[5:]
	number := func() uint64 {
		v, n := binary.Uvarint(rest)
		if n < 1 {
			t.Fatalf("%d: no number in %s", kind, brief(rest))
		}
		rest = rest[n:]
		return v
	}
	list := make([]told, number())
	for i := range list {
		list[i].first = int64(binary.BigEndian.Uint64(rest))
		rest = rest[8:]
		list[i].span, list[i].count, list[i].of = number(), number(), number()
	}
	ahead := b[:len(b)-len(rest)]
	if sum := binary.BigEndian.Uint32(rest); sum != crc32.ChecksumIEEE(ahead) {
		t.Fatalf("%d: the sum %#x of %s", kind, sum, brief(ahead))
	}
	return list, rest[4:]
}

// holdChunks fails the test, if a block that is read tells other samples than were packed, or other things of its chunks than they are.
func holdChunks(t *testing.T, kind int, list []api.Sample, size int) {
	t.Helper()
	b, err := pack.Pack(kind, list, size)
	if err != nil {
		t.Fatalf("Pack(%d, %s, %d): %v", kind, short(list), size, err)
	}
	chunks, rest := split(t, kind, b)
	if len(chunks) != (len(list)+size-1)/size {
		t.Fatalf("Pack(%d, %s, %d): %d chunks", kind, short(list), size, len(chunks))
	}
	for i, c := range chunks {
		part := list[i*size : min(len(list), (i+1)*size)]
		span := uint64(part[len(part)-1].T) - uint64(part[0].T)
		if c.first != part[0].T || c.span != span || c.count != uint64(len(part)) || c.of > uint64(len(rest)) {
			t.Fatalf("Pack(%d, %s, %d): the %d-th chunk is told as %v", kind, short(list), size, i, c)
		}
		holdChunk(t, kind, part, rest[:c.of])
		rest = rest[c.of:]
	}
	if len(rest) != 0 {
		t.Fatalf("Pack(%d, %s, %d): %d bytes too many", kind, short(list), size, len(rest))
	}
}

// holdChunk fails the test, if a chunk's bytes aren't those of its samples alone, and their sum.
func holdChunk(t *testing.T, kind int, part []api.Sample, b []byte) {
	t.Helper()
	if len(b) < 20 {
		t.Fatalf("%d, %s: %v", kind, short(part), b)
	}
	body, sum := b[:len(b)-4], crc32.ChecksumIEEE(b[:len(b)-4])
	if !bytes.Equal(b[len(b)-4:], []byte{byte(sum >> 24), byte(sum >> 16), byte(sum >> 8), byte(sum)}) {
		t.Fatalf("%d, %s: the sum %v, want %#x", kind, short(part), b[len(b)-4:], sum)
	}
	if l, err := slow.Decode(kind, body, len(part)); err != nil || !slices.Equal(l, part) {
		t.Fatalf("%d, %s: the bytes tell %s, %v", kind, short(part), short(l), err)
	}
	alone, err := pack.Pack(kind, part, 65535)
	if err != nil || !bytes.HasSuffix(alone, b) {
		t.Fatalf("%d, %s: packed alone they are %s, %v", kind, short(part), brief(alone), err)
	}
	if _, rest := split(t, kind, alone); len(rest) != len(b) {
		t.Fatalf("%d, %s: packed alone they are %d bytes, not %d", kind, short(part), len(rest), len(b))
	}
}

func TestBlocksTellWhatTheirChunksAre(t *testing.T) {
	for _, size := range sizes() {
		for i, n := range counts(size) {
			if n > 65536 {
				continue
			}
			for _, kind := range bothKinds() {
				holdChunks(t, kind, walk(uint64(7*i+size), n), size)
				holdChunks(t, kind, even(n), size)
			}
		}
	}
	for _, f := range written() {
		holdChunks(t, f.kind, f.list, f.size)
	}
	var edges []api.Sample
	for i, at := range edgeTimes() {
		edges = append(edges, api.Sample{T: at, V: -uint64(i % 2)})
	}
	for size := 1; size <= len(edges); size++ {
		holdChunks(t, api.Xor, edges, size)
		holdChunks(t, api.Ints, edges, size)
	}
}

// The sum's highest byte stands first, also where it is 0, or all bits 1, or where it looks alike from behind but for one byte.
func TestTheSumsHighestByteIsFirst(t *testing.T) {
	seen := map[[2]byte]bool{}
	for v := range uint64(3000) {
		list := []api.Sample{{T: 1, V: v}}
		b, err := pack.Pack(api.Ints, list, 1)
		if err != nil || len(b) != 41 {
			t.Fatalf("%v: %s, %v", list, brief(b), err)
		}
		sum := crc32.ChecksumIEEE(b[21:37])
		for i, c := range b[37:] {
			if c != byte(sum>>(24-8*i)) {
				t.Fatalf("%v: %v, want %#x", list, b[37:], sum)
			}
			if c == 0 || c == 255 {
				seen[[2]byte{byte(i), c}] = true
			}
		}
	}
	if len(seen) != 8 {
		t.Errorf("only %v", seen)
	}
}

// As many chunks as there may be, and one less, by size 1 and by greater ones.
func TestOfTheMostChunks(t *testing.T) {
	for _, kind := range bothKinds() {
		holdLaid(t, kind, walk(3, 65535), 1)
		holdLaid(t, kind, even(65534), 1)
		holdLaid(t, kind, walk(4, 2*65535), 2)
		holdLaid(t, kind, even(2*65535-1), 2)
		holdLaid(t, kind, even(2*65535-2), 2)
		holdLaid(t, kind, walk(5, 3*65535), 3)
		holdLaid(t, kind, walk(6, 3*65535-2), 3)
	}
	holdChunks(t, api.Ints, even(65535), 1)
	holdLaid(t, api.Xor, even(7*65535), 7)
}

// What size may not be is told ahead of all else: of what is no kind, of times that don't rise, and of too many samples.
func TestOfNoSize(t *testing.T) {
	lists := append(wrong(2), wrong(9)...)
	lists = append(lists, nil, []api.Sample{}, even(1), even(9), walk(1, 300))
	for _, size := range noSizes() {
		for _, kind := range append(noKinds(), bothKinds()...) {
			for _, list := range lists {
				holdError(t, kind, list, size, api.ErrArg)
			}
		}
	}
	many := append(wrong(70000), even(65536), even(70000))
	for _, size := range noSizes() {
		for _, kind := range []int{api.Xor, api.Ints, 0, 3, math.MinInt, math.MaxInt} {
			for _, list := range many {
				holdError(t, kind, list, size, api.ErrArg)
			}
		}
	}
}

// The least and the greatest size may be, and those beside them inside.
func TestOfSizesThatMayBe(t *testing.T) {
	for _, size := range []int{1, 2, 255, 256, 257, 32767, 32768, 46341, 65533, 65534, 65535} {
		for _, kind := range bothKinds() {
			holdLaid(t, kind, nil, size)
			holdLaid(t, kind, even(3), size)
			holdLaid(t, kind, walk(uint64(size), 600), size)
			holdError(t, kind, wrong(2)[0], size, api.ErrOrder)
		}
	}
}

// What is no kind is told ahead of times that don't rise, and of too many samples, and also where there are none.
func TestOfNoKind(t *testing.T) {
	lists := append(wrong(2), wrong(9)...)
	lists = append(lists, nil, []api.Sample{}, even(1), even(9), walk(1, 300))
	for _, kind := range noKinds() {
		for _, list := range lists {
			for _, size := range append(sizes(), 65534) {
				holdError(t, kind, list, size, api.ErrKind)
			}
		}
		for _, list := range append(wrong(70000), even(65535), even(65536), even(70000)) {
			holdError(t, kind, list, 1, api.ErrKind)
		}
	}
	for _, kind := range []int{0, 3, -1, math.MinInt, math.MaxInt} {
		for _, list := range append(wrong(2*65535+1), even(2*65535+1)) {
			holdError(t, kind, list, 2, api.ErrKind)
		}
	}
}

func TestOfNoOrderWrittenOut(t *testing.T) {
	for _, times := range [][]int64{
		{0, 0},
		{0, -1},
		{1, 0},
		{least, least},
		{greatest, greatest},
		{greatest, least},
		{greatest, greatest - 1},
		{least + 1, least},
		{0, least},
		{-1, least},
		{1, -1},
		{1, 2, 2},
		{1, 3, 2},
		{1, 2, 1},
		{1, 2, 0},
		{1, 1, 2},
		{2, 1, 3},
		{5, 1, 2, 3, 4},
		{1, 2, 3, 4, 4},
		{1, 2, 5, 3, 6},
		{1, 2, 2, 3, 4, 5, 6},
		{0, greatest, least},
		{0, greatest, -2},
		{least, greatest, least},
		{least, greatest, greatest},
		{least, greatest, greatest - 1},
		{least, -1, -2},
		{0, 1 << 32, 1},
		{0, 1<<32 + 5, 1 << 32},
	} {
		for _, v := range []uint64{0, 1, all, half} {
			var list []api.Sample
			for i, at := range times {
				list = append(list, api.Sample{T: at, V: v * uint64(i)})
			}
			for _, kind := range bothKinds() {
				for _, size := range append(sizes(), 4, 5, 6) {
					holdError(t, kind, list, size, api.ErrOrder)
				}
			}
		}
	}
}

// One time alone isn't above the one ahead of it, at each place: so in a chunk, at its end, and where the next one begins.
func TestOfNoOrderAtEachPlace(t *testing.T) {
	for _, n := range []int{2, 3, 4, 5, 9, 33, 66} {
		list := walk(uint64(n), n)
		for i := 1; i < n; i++ {
			for _, less := range []int64{0, 1} {
				bad := slices.Clone(list)
				bad[i].T = bad[i-1].T - less
				for _, size := range append(sizes(), 4, 5, 11) {
					for _, kind := range bothKinds() {
						holdError(t, kind, bad, size, api.ErrOrder)
						holdLaid(t, kind, bad[:i], size)
					}
				}
			}
		}
	}
}

// spoilt tells lists of n samples, one time of which isn't above the one ahead of it: the second, some in the middle, and the last.
func spoilt(n int, places ...int) [][]api.Sample {
	var lists [][]api.Sample
	for _, i := range append(places, 1, n/2, n-1) {
		for _, less := range []int64{0, 1} {
			bad := even(n)
			bad[i].T = bad[i-1].T - less
			lists = append(lists, bad)
		}
	}
	return lists
}

// Times that don't rise are told ahead of too many samples, also where only those don't that are too many.
func TestOfNoOrderAmongTooMany(t *testing.T) {
	for _, kind := range bothKinds() {
		for _, n := range []int{65535, 65536, 65537, 70000} {
			for _, list := range append(wrong(n), spoilt(n, 2, n-2, 65533, 65534)...) {
				holdError(t, kind, list, 1, api.ErrOrder)
			}
		}
		for _, n := range []int{3 * 65535, 3*65535 + 1, 3*65535 + 2, 4 * 65535} {
			for _, list := range append(wrong(n), spoilt(n, 2, 3, n-2, n-3, 3*65535-1)...) {
				holdError(t, kind, list, 3, api.ErrOrder)
			}
		}
	}
}

// In chunks as great as there may be, and where the second one begins.
func TestOfNoOrderInGreatChunks(t *testing.T) {
	for _, list := range append(spoilt(65535, 65533), spoilt(3*65535, 65534, 65535, 65536, 2*65535-1, 2*65535, 2*65535+1)...) {
		for _, kind := range bothKinds() {
			holdError(t, kind, list, 65535, api.ErrOrder)
		}
	}
}

func TestOfTooManySamples(t *testing.T) {
	for _, kind := range bothKinds() {
		for _, n := range []int{65536, 65537, 65538, 70000, 2*65535 - 1, 2 * 65535, 2 * 65536, 2*65536 + 1, 1 << 20} {
			holdError(t, kind, even(n), 1, api.ErrLarge)
			holdError(t, kind, walk(1, n), 1, api.ErrLarge)
		}
		for _, size := range []int{2, 3, 7, 32, 33} {
			for _, n := range []int{65535*size + 1, 65535*size + 2, 65536 * size, 65536*size + 1} {
				holdError(t, kind, even(n), size, api.ErrLarge)
			}
		}
		// What is left over may be less than a chunk, and be too many.
		holdError(t, kind, walk(2, 7*65535+1), 7, api.ErrLarge)
		holdError(t, kind, walk(2, 7*65535+6), 7, api.ErrLarge)
	}
}

// As many samples as there may be are packed; one more is too many, be the list handed in the same.
func TestOfJustAsManySamples(t *testing.T) {
	for _, size := range []int{1, 2, 3} {
		list := even(65535*size + 1)
		for _, kind := range bothKinds() {
			holdLaid(t, kind, list[:65535*size], size)
			holdError(t, kind, list, size, api.ErrLarge)
			holdLaid(t, kind, list[1:], size)
			// By a greater size, they aren't too many.
			holdLaid(t, kind, list, size+1)
		}
	}
}

// turn turns every bit of a slice's memory, that behind its end, too.
func turn(b []byte) {
	b = b[:cap(b)]
	for i := range b {
		b[i] = ^b[i]
	}
}

// calls does something for many arguments, wrong ones among them.
func calls(do func(kind int, list []api.Sample, size int)) {
	for _, f := range written() {
		do(f.kind, f.list, f.size)
	}
	for _, n := range []int{0, 1, 2, 3, 8, 100} {
		for _, list := range append(wrong(n), walk(uint64(n), n), even(n)) {
			for _, kind := range []int{api.Xor, api.Ints, 0, 3} {
				for _, size := range []int{1, 2, 3, 7, 99, 100, 65535, 0, 65536} {
					do(kind, list, size)
				}
			}
		}
	}
	do(api.Xor, even(65536), 1)
	do(api.Ints, walk(1, 65535), 1)
}

// What is handed in stands as it was, and what stands around it in the same memory: this is nothing to the answer, either.
func TestTheListStaysAsItWas(t *testing.T) {
	calls(func(kind int, list []api.Sample, size int) {
		want, wantErr := pack.Pack(kind, slices.Clip(slices.Clone(list)), size)
		for _, around := range []api.Sample{{}, {T: greatest, V: all}, {T: least, V: half}} {
			room := slices.Repeat([]api.Sample{around}, 5)
			memory := slices.Concat(room, list, room)
			before := slices.Clone(memory)
			b, err := pack.Pack(kind, memory[5:5+len(list)], size)
			if !slices.Equal(memory, before) {
				t.Fatalf("Pack(%d, %s, %d): the list was changed", kind, short(list), size)
			}
			if !bytes.Equal(b, want) || err != wantErr {
				t.Fatalf("Pack(%d, %s, %d): %s, %v; want %s, %v", kind, short(list), size, brief(b), err, brief(want), wantErr)
			}
			turn(b)
			if !slices.Equal(memory, before) {
				t.Fatalf("Pack(%d, %s, %d): the list was changed by the bytes", kind, short(list), size)
			}
		}
	})
}

// What is changed in the samples afterwards changes nothing that was told.
func TestTheListIsNotKept(t *testing.T) {
	calls(func(kind int, list []api.Sample, size int) {
		given := slices.Clone(list)
		b, err := pack.Pack(kind, given, size)
		before := bytes.Clone(b)
		for i := range given {
			given[i] = api.Sample{T: ^given[i].T, V: ^given[i].V}
		}
		if !bytes.Equal(b, before) {
			t.Fatalf("Pack(%d, %s, %d): the bytes hang on the list behind the call", kind, short(list), size)
		}
		// What is told of the list as it is then is told of that alone, and of the earlier one what was.
		pack.Pack(kind, given, size)
		c, err2 := pack.Pack(kind, list, size)
		if !bytes.Equal(c, before) || err != err2 {
			t.Fatalf("Pack(%d, %s, %d): %s, %v; was %s, %v", kind, short(list), size, brief(c), err2, brief(before), err)
		}
	})
}

// What is changed in bytes that were told changes no other answer, neither an earlier nor a later one.
func TestAnswersAreNewMemory(t *testing.T) {
	for _, f := range written() {
		one, _ := pack.Pack(f.kind, f.list, f.size)
		other, _ := pack.Pack(f.kind, f.list, f.size)
		turn(one)
		if !bytes.Equal(other, f.b) {
			t.Fatalf("%d, %s by %d: two answers share memory", f.kind, short(f.list), f.size)
		}
		hold(t, f.kind, f.list, f.size, f.b)
		for i := range other {
			other[i]++
			hold(t, f.kind, f.list, f.size, f.b)
		}
	}
	calls(func(kind int, list []api.Sample, size int) {
		one, err := pack.Pack(kind, list, size)
		want := bytes.Clone(one)
		other, _ := pack.Pack(kind, list, size)
		turn(one)
		if !bytes.Equal(other, want) {
			t.Fatalf("Pack(%d, %s, %d): two answers share memory", kind, short(list), size)
		}
		if again, err2 := pack.Pack(kind, list, size); !bytes.Equal(again, want) || err != err2 {
			t.Fatalf("Pack(%d, %s, %d): %s, %v; was %s, %v", kind, short(list), size, brief(again), err2, brief(want), err)
		}
	})
}

// What was told stays as it was, whatever is asked behind it.
func TestWhatWasToldStays(t *testing.T) {
	var answers [][]byte
	for _, f := range written() {
		b, _ := pack.Pack(f.kind, f.list, f.size)
		answers = append(answers, b)
		pack.Pack(f.kind, wrong(5)[0], 2)
		pack.Pack(3, f.list, 1)
		pack.Pack(f.kind, walk(1, 50), 5)
		pack.Pack(f.kind, nil, 1)
	}
	for i, f := range written() {
		if !bytes.Equal(answers[i], f.b) {
			t.Fatalf("%d, %s by %d: %v, want %v", f.kind, short(f.list), f.size, answers[i], f.b)
		}
		turn(answers[i])
	}
}

// A call hangs on what it is given alone, not on what an earlier one saw, nor on its error.
func TestNothingIsKept(t *testing.T) {
	for _, f := range written() {
		for _, g := range written() {
			hold(t, f.kind, f.list, f.size, f.b)
			holdError(t, g.kind, g.list, 0, api.ErrArg)
			hold(t, g.kind, g.list, g.size, g.b)
			holdError(t, 3, g.list, g.size, api.ErrKind)
			hold(t, f.kind, f.list, f.size, f.b)
			holdError(t, f.kind, wrong(3)[1], f.size, api.ErrOrder)
			hold(t, f.kind, f.list, f.size, f.b)
		}
	}
	holdError(t, api.Xor, even(65536), 1, api.ErrLarge)
	hold(t, api.Xor, nil, 1, written()[0].b)
}

// Calls that go on at the same time know nothing of each other.
func TestCallsAtTheSameTime(t *testing.T) {
	var wg sync.WaitGroup
	for i := range 8 {
		list := walk(uint64(i), 400+i)
		size := 1 + 3*i
		want := lay(t, api.Xor, list, size)
		wg.Go(func() {
			for range 60 {
				if b, err := pack.Pack(api.Xor, list, size); err != nil || !bytes.Equal(b, want) {
					t.Errorf("%s by %d: %s, %v; want %s", short(list), size, brief(b), err, brief(want))
					return
				}
			}
		})
	}
	wg.Wait()
}

// By sizes that are as many as there are samples, or more, the block is the same; by lesser ones it is another one each.
func TestOfSizesOfTheSameSamples(t *testing.T) {
	var lists [][]api.Sample
	for n := 1; n <= 40; n++ {
		lists = append(lists, walk(uint64(n), n), even(n))
	}
	lists = append(lists, walk(77, 300), even(257))
	for _, list := range lists {
		for _, kind := range bothKinds() {
			n := len(list)
			whole, err := pack.Pack(kind, list, n)
			if err != nil {
				t.Fatalf("%d, %s: %v", kind, short(list), err)
			}
			for _, size := range []int{n + 1, n + 2, 2*n - 1, 2 * n, 2*n + 1, 1000, 65534, 65535} {
				hold(t, kind, list, max(size, n), whole)
			}
			seen := map[string]int{string(whole): n}
			for size := 1; size < n; size++ {
				b, err := pack.Pack(kind, list, size)
				if other := seen[string(b)]; err != nil || other != 0 {
					t.Fatalf("%d, %s: by %d and by %d the block is %s; %v", kind, short(list), other, size, brief(b), err)
				}
				seen[string(b)] = size
			}
		}
	}
}

func TestOfGreatSizesOfTheSameSamples(t *testing.T) {
	for _, kind := range bothKinds() {
		list := walk(5, 65535)
		for n := 65533; n <= 65535; n++ {
			whole := lay(t, kind, list[:n], 65535)
			for size := 65532; size <= 65535; size++ {
				b, err := pack.Pack(kind, list[:n], size)
				if err != nil || bytes.Equal(b, whole) != (size >= n) {
					t.Fatalf("%d, %d samples by %d: %s, %v", kind, n, size, brief(b), err)
				}
			}
		}
	}
}

// rises tells whether the times of the list rise.
func rises(list []api.Sample) bool {
	for i := range len(list) - 1 {
		if list[i+1].T <= list[i].T {
			return false
		}
	}
	return true
}

// register holds that no two of many lists have one block.
type register map[string]string

// add fails the test, if a list has no block, or one that was there.
func (r register) add(t *testing.T, kind int, list []api.Sample, size int) {
	t.Helper()
	b, err := pack.Pack(kind, list, size)
	name := fmt.Sprint(kind, list)
	if other, ok := r[string(b)]; err != nil || ok && other != name {
		t.Fatalf("Pack(%d, %s, %d): %v; the block is that of %.200s, too", kind, short(list), size, err, other)
	}
	r[string(b)] = name
}

// All lists of a few times and values, of both kinds and by all sizes: unlike samples have unlike blocks.
func TestAllListsOfAFew(t *testing.T) {
	times := []int64{least, -1, 0, 1, 64, greatest}
	values := []uint64{0, 1, 3, half, all}
	seen := register{}
	count := 0
	lists := [][]api.Sample{nil}
	for n := 0; n <= 3; n++ {
		for _, list := range lists {
			count++
			for _, kind := range bothKinds() {
				for size := 1; size <= max(n, 1); size++ {
					seen.add(t, kind, list, size)
				}
			}
		}
		var longer [][]api.Sample
		for _, list := range lists {
			for _, at := range times {
				for _, v := range values {
					if next := append(slices.Clone(list), api.Sample{T: at, V: v}); rises(next) {
						longer = append(longer, next)
					}
				}
			}
		}
		lists = longer
	}
	if count != 1+30+375+2500 || len(seen) != 2*(1+30+2*375+3*2500) {
		t.Errorf("%d lists, %d blocks", count, len(seen))
	}
}

// A list's beginnings and ends, and lists that are other ones by a bit of one sample, have blocks of their own.
func TestEachBitIsSeen(t *testing.T) {
	seen := register{}
	for _, n := range []int{1, 2, 3, 5, 12, 40} {
		list := walk(uint64(n), n)
		for _, size := range []int{1, 2, 5, 40} {
			for _, kind := range bothKinds() {
				for i := range list {
					seen.add(t, kind, list[:i], size)
					seen.add(t, kind, list[i:], size)
				}
				for _, i := range []int{0, n / 2, n - 1} {
					for bit := range 64 {
						other, later := slices.Clone(list), slices.Clone(list)
						other[i].V ^= 1 << bit
						seen.add(t, kind, other, size)
						if later[i].T ^= 1 << bit; rises(later) {
							seen.add(t, kind, later, size)
						}
					}
				}
			}
		}
	}
	if len(seen) < 6000 {
		t.Errorf("only %d blocks", len(seen))
	}
}

// What was packed is got by layer 14, and each chunk by layer 10.
func TestWhatWasPackedIsGot(t *testing.T) {
	for start := range uint64(60) {
		list := walk(start, int(start)*5)
		for _, size := range sizes() {
			for _, kind := range bothKinds() {
				b, err := pack.Pack(kind, list, size)
				if err != nil {
					t.Fatal(kind, short(list), size, err)
				}
				h, at, err := index.Get(b)
				if err != nil || h.Kind != kind {
					t.Fatalf("Pack(%d, %s, %d): the index is %d, %v", kind, short(list), size, h.Kind, err)
				}
				var got []api.Sample
				for _, e := range h.List {
					l, err := slow.Decode(kind, b[at:at+e.Len-4], e.Count)
					if err != nil || l[0].T != e.Min || l[len(l)-1].T != e.Max {
						t.Fatalf("Pack(%d, %s, %d): %v is of %s, %v", kind, short(list), size, e, short(l), err)
					}
					got = append(got, l...)
					at += e.Len
				}
				if !slices.Equal(got, list) {
					t.Fatalf("Pack(%d, %s, %d): got %s", kind, short(list), size, short(got))
				}
			}
		}
	}
}
