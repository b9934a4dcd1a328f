package whole_test

import (
	"bytes"
	"encoding/binary"
	"fmt"
	"hash/crc32"
	"math"
	"slices"
	"strings"
	"sync"
	"testing"

	"gaiter/api"
	"gaiter/chunk"
	"gaiter/index"
	"gaiter/pack"
	"gaiter/slow"
	"gaiter/whole"
)

// The tests hold Chunk and Decode against chunks and blocks written out; against samples that they lay themselves, out of layers 9 and 14 and the library's sums; and, of any bytes, against P16.1's words.

const (
	least    = math.MinInt64
	greatest = math.MaxInt64
	all      = uint64(math.MaxUint64)
	half     = uint64(1) << 63
)

// part is samples, and their chunk written out: the first sample, the others, the sum.
type part struct {
	list []api.Sample
	b    []byte
}

// form is a block written out: its index, and its chunks.
type form struct {
	kind  int
	front []byte
	parts []part
}

// written tells blocks written out.
func written() []form {
	return []form{
		{1, []byte{71, 84, 83, 49, 1, 0, 139, 6, 236, 214}, nil},
		{2, []byte{71, 84, 83, 49, 2, 0, 160, 43, 191, 21}, nil},
		{1, []byte{71, 84, 83, 49, 1, 1,
			0, 0, 0, 0, 0, 0, 0, 10, 0, 1, 20,
			43, 33, 215, 218}, []part{
			{[]api.Sample{{T: 10, V: 5}}, []byte{
				0, 0, 0, 0, 0, 0, 0, 10, 0, 0, 0, 0, 0, 0, 0, 5,
				9, 255, 53, 68}}}},
		{2, []byte{71, 84, 83, 49, 2, 1,
			0, 0, 0, 0, 0, 0, 0, 10, 20, 3, 23,
			38, 251, 131, 128}, []part{
			{[]api.Sample{{T: 10, V: 5}, {T: 20, V: 8}, {T: 30, V: 11}}, []byte{
				0, 0, 0, 0, 0, 0, 0, 10, 0, 0, 0, 0, 0, 0, 0, 5,
				133, 64, 192,
				139, 2, 133, 226}}}},
		{2, []byte{71, 84, 83, 49, 2, 3,
			0, 0, 0, 0, 0, 0, 0, 10, 0, 1, 20,
			0, 0, 0, 0, 0, 0, 0, 20, 0, 1, 20,
			0, 0, 0, 0, 0, 0, 0, 30, 0, 1, 20,
			105, 145, 24, 117}, []part{
			{[]api.Sample{{T: 10, V: 5}}, []byte{
				0, 0, 0, 0, 0, 0, 0, 10, 0, 0, 0, 0, 0, 0, 0, 5,
				9, 255, 53, 68}},
			{[]api.Sample{{T: 20, V: 8}}, []byte{
				0, 0, 0, 0, 0, 0, 0, 20, 0, 0, 0, 0, 0, 0, 0, 8,
				19, 76, 208, 26}},
			{[]api.Sample{{T: 30, V: 11}}, []byte{
				0, 0, 0, 0, 0, 0, 0, 30, 0, 0, 0, 0, 0, 0, 0, 11,
				31, 107, 11, 62}}}},
		{1, []byte{71, 84, 83, 49, 1, 2,
			255, 255, 255, 255, 255, 255, 255, 255, 2, 3, 22,
			0, 0, 0, 0, 0, 0, 0, 2, 1, 2, 23,
			163, 211, 237, 5}, []part{
			{[]api.Sample{{T: -1, V: 7}, {T: 0, V: 7}, {T: 1, V: 7}}, []byte{
				255, 255, 255, 255, 255, 255, 255, 255, 0, 0, 0, 0, 0, 0, 0, 7,
				128, 128,
				2, 207, 116, 41}},
			{[]api.Sample{{T: 2, V: 6}, {T: 3, V: 7}}, []byte{
				0, 0, 0, 0, 0, 0, 0, 2, 0, 0, 0, 0, 0, 0, 0, 6,
				128, 255, 129,
				251, 246, 93, 104}}}},
		{1, []byte{71, 84, 83, 49, 1, 1,
			128, 0, 0, 0, 0, 0, 0, 0, 255, 255, 255, 255, 255, 255, 255, 255, 255, 1, 2, 31,
			175, 50, 165, 62}, []part{
			{[]api.Sample{{T: least, V: 0}, {T: greatest, V: all}}, []byte{
				128, 0, 0, 0, 0, 0, 0, 0, 0, 0, 0, 0, 0, 0, 0, 0,
				191, 224, 127, 255, 255, 255, 255, 255, 255, 255, 254,
				99, 166, 185, 11}}}},
		{1, []byte{71, 84, 83, 49, 1, 2,
			128, 0, 0, 0, 0, 0, 0, 0, 0, 1, 20,
			127, 255, 255, 255, 255, 255, 255, 255, 0, 1, 20,
			214, 224, 198, 214}, []part{
			{[]api.Sample{{T: least, V: 0}}, []byte{
				128, 0, 0, 0, 0, 0, 0, 0, 0, 0, 0, 0, 0, 0, 0, 0,
				176, 70, 166, 161}},
			{[]api.Sample{{T: greatest, V: all}}, []byte{
				127, 255, 255, 255, 255, 255, 255, 255, 255, 255, 255, 255, 255, 255, 255, 255,
				99, 78, 43, 238}}}},
		{2, []byte{71, 84, 83, 49, 2, 3,
			128, 0, 0, 0, 0, 0, 0, 0, 255, 255, 255, 255, 255, 255, 255, 255, 127, 2, 29,
			0, 0, 0, 0, 0, 0, 0, 0, 1, 2, 23,
			127, 255, 255, 255, 255, 255, 255, 255, 0, 1, 20,
			240, 69, 226, 176}, []part{
			{[]api.Sample{{T: least, V: all}, {T: -1, V: all}}, []byte{
				128, 0, 0, 0, 0, 0, 0, 0, 255, 255, 255, 255, 255, 255, 255, 255,
				247, 255, 255, 255, 255, 255, 255, 255, 240,
				164, 48, 59, 180}},
			{[]api.Sample{{T: 0, V: 0}, {T: 1, V: 1}}, []byte{
				0, 0, 0, 0, 0, 0, 0, 0, 0, 0, 0, 0, 0, 0, 0, 0,
				128, 192, 64,
				134, 27, 68, 49}},
			{[]api.Sample{{T: greatest, V: 1}}, []byte{
				127, 255, 255, 255, 255, 255, 255, 255, 0, 0, 0, 0, 0, 0, 0, 1,
				80, 47, 27, 13}}}},
	}
}

// block tells a written block's bytes, and all its samples.
func (f form) block() ([]byte, []api.Sample) {
	b := bytes.Clone(f.front)
	var list []api.Sample
	for _, p := range f.parts {
		b = append(b, p.b...)
		list = append(list, p.list...)
	}
	return b, list
}

func bothKinds() []int { return []int{api.Xor, api.Ints} }

// noKinds tells numbers that are no kind; some of them would be one, if bits of them were lost.
func noKinds() []int {
	list := []int{0, 3, 4, 5, 7, 10, -1, -2, -3, 255, 256, 257, 258, -255, -254, 1<<16 + 1, 1<<16 + 2, 1<<32 + 1, 1<<32 + 2}
	return append(list, math.MinInt, math.MinInt+1, math.MinInt+2, math.MaxInt, math.MaxInt-1, math.MaxInt32, math.MinInt32)
}

// noCounts tells numbers that Count may not be; some of them might be one, if bits of them were lost.
func noCounts() []int {
	list := []int{0, -1, -2, -3, -100, -65534, -65535, -65536, 65536, 65537, 65538, 2*65536 + 1, 1<<24 + 1, 1<<31 + 1, 1 << 32, 1<<32 + 1, 1<<32 + 3, 1 - 1<<32}
	return append(list, math.MinInt, math.MinInt+1, math.MinInt+3, math.MaxInt, math.MaxInt-1, math.MaxInt32, math.MinInt32, math.MinInt32+1)
}

// noLens tells numbers that Len isn't, of so many bytes; some of them might be it, if bits of them were lost.
func noLens(size int) []int {
	list := []int{size - 1, size + 1, size - 4, size + 4, 2*size + 1, -size - 1, -1, -4, ^size, size + 256, size + 1<<16, size + 1<<31, size + 1<<32, size - 1<<32, size + math.MinInt}
	return append(list, math.MinInt, math.MinInt+4, math.MaxInt, math.MaxInt-1, math.MaxInt32, math.MinInt32, 1<<31, 1<<32)
}

// mixer tells numbers that hang on a start alone, the lowest bits as mixed as the highest ones.
func mixer(start uint64) func() uint64 {
	v := start
	return func() uint64 {
		v = v*6364136223846793005 + 1442695040888963407
		x := v
		x ^= x >> 32
		x *= 0xd6e8feb86659fd93
		return x ^ x>>32
	}
}

// walk tells n samples of rising times: steps of several sizes, as far as n of them have room, and values that stay, go on alike, or jump.
func walk(start uint64, n int) []api.Sample {
	next := mixer(start)
	room := all / uint64(max(n, 1))
	x := api.Sample{T: least + int64(next()%9), V: next()}
	d, e := uint64(1), uint64(0)
	list := make([]api.Sample, n)
	for i := range list {
		list[i] = x
		switch next() % 6 {
		case 0, 1, 2: // as before
		case 3:
			d = next() % 9
		case 4:
			d += next() % 600
		default:
			d = next() >> (next() % 64)
		}
		switch next() % 8 {
		case 0, 1, 2: // as before
		case 3:
			e = 0
		case 4:
			e += next()%9 - 4
		case 5:
			e += next()%5000 - 2500
		default:
			e = next() >> (next() % 64) << (next() % 20)
		}
		d = d%(room-9) + 1
		x = api.Sample{T: x.T + int64(d), V: x.V + e}
	}
	return list
}

// even tells n samples whose times are 1 apart, from below 0 on, all of one value.
func even(n int) []api.Sample {
	list := make([]api.Sample, n)
	for i := range list {
		list[i] = api.Sample{T: int64(i) - 70, V: 9}
	}
	return list
}

// steady tells n samples of mixed values, whose times are 1000 apart: each of them, but for the first, has 9 bits or more of either kind, and there is room for other times between them.
func steady(from int64, n int) []api.Sample {
	next := mixer(uint64(from) + uint64(n))
	list := make([]api.Sample, n)
	for i := range list {
		list[i] = api.Sample{T: from + 1000*int64(i), V: next()}
	}
	return list
}

// edgeTimes tells times that rise, near the ends, around 0, and between.
func edgeTimes() []int64 {
	return []int64{least, least + 1, least + 64, -1 << 62, -1<<32 - 1, -1 << 32, -300, -2, -1, 0, 1, 2, 63, 128, 16384, 1 << 31, 1 << 62, greatest - 1, greatest}
}

// summed tells bytes with their sum behind them, by the library.
func summed(body []byte) []byte {
	return binary.BigEndian.AppendUint32(bytes.Clone(body), crc32.ChecksumIEEE(body))
}

// piece is a chunk, and what an index tells of it.
type piece struct {
	e index.Entry
	b []byte
}

// entryOf tells what an index tells of a chunk of bytes that are these samples.
func entryOf(list []api.Sample, b []byte) index.Entry {
	return index.Entry{Min: list[0].T, Max: list[len(list)-1].T, Count: len(list), Len: len(b)}
}

// bodyOf tells samples' bytes.
func bodyOf(t *testing.T, kind int, list []api.Sample) []byte {
	t.Helper()
	b, err := chunk.Encode(kind, list)
	if err != nil {
		t.Fatalf("%d, %s: %v", kind, short(list), err)
	}
	return b
}

// good tells samples' chunk.
func good(t *testing.T, kind int, list []api.Sample) piece {
	t.Helper()
	b := summed(bodyOf(t, kind, list))
	return piece{entryOf(list, b), b}
}

// laid tells the block of chunks.
func laid(t *testing.T, kind int, pieces ...piece) []byte {
	t.Helper()
	h := index.Head{Kind: kind}
	var rest []byte
	for _, p := range pieces {
		h.List = append(h.List, p.e)
		rest = append(rest, p.b...)
	}
	front, err := index.Put(h)
	if err != nil {
		t.Fatalf("%d, %v: %v", kind, h.List[:min(9, len(h.List))], err)
	}
	return append(front, rest...)
}

// packed tells samples' block, as layer 15 packs it.
func packed(t *testing.T, kind int, list []api.Sample, size int) []byte {
	t.Helper()
	b, err := pack.Pack(kind, list, size)
	if err != nil {
		t.Fatalf("%d, %s by %d: %v", kind, short(list), size, err)
	}
	return b
}

// indexSize tells how many bytes the index of a good block is.
func indexSize(t *testing.T, b []byte) int {
	t.Helper()
	_, n, err := index.Get(b)
	if err != nil {
		t.Fatalf("%s: %v", brief(b), err)
	}
	return n
}

// short tells a list as far as a test's output needs it.
func short(list []api.Sample) string {
	return fmt.Sprintf("%d samples from %v", len(list), list[:min(4, len(list))])
}

// brief tells bytes as far as a test's output needs them.
func brief(b []byte) string { return fmt.Sprintf("%d bytes %v", len(b), b[:min(80, len(b))]) }

// isCode tells whether an error is this one, the value itself; 0 is none.
func isCode(err error, want api.Code) bool {
	if err == nil {
		return want == 0
	}
	code, ok := err.(api.Code)
	return ok && code == want
}

// codeOf tells an error's number, or 0.
func codeOf(err error) api.Code {
	code, _ := err.(api.Code)
	return code
}

// hold fails the test, if Chunk tells anything but these samples without an error.
func hold(t *testing.T, kind int, e index.Entry, b []byte, want []api.Sample) {
	t.Helper()
	if l, err := whole.Chunk(kind, e, b); err != nil || !slices.Equal(l, want) {
		t.Fatalf("Chunk(%d, %v, %s): %s, %v; want %s", kind, e, brief(b), short(l), err, short(want))
	}
}

// holdError fails the test, if Chunk tells anything but this error, or any samples.
func holdError(t *testing.T, kind int, e index.Entry, b []byte, want api.Code) {
	t.Helper()
	if l, err := whole.Chunk(kind, e, b); !isCode(err, want) || len(l) != 0 {
		t.Fatalf("Chunk(%d, %v, %s): %s, %v; want %v", kind, e, brief(b), short(l), err, want)
	}
}

// holdBlock fails the test, if Decode tells anything but these samples and this error; 0 is none.
func holdBlock(t *testing.T, b []byte, want []api.Sample, wantErr api.Code) {
	t.Helper()
	if l, err := whole.Decode(b); !isCode(err, wantErr) || !slices.Equal(l, want) {
		t.Fatalf("Decode(%s): %s, %v; want %s, %v", brief(b), short(l), err, short(want), wantErr)
	}
}

// toldChunk tells what Chunk must answer, by the words of P16.1.
func toldChunk(kind int, e index.Entry, b []byte) ([]api.Sample, api.Code) {
	if len(b) < 4 || e.Len-len(b) != 0 {
		return nil, api.ErrArg
	}
	body := bytes.Clone(b[:len(b)-4])
	if !bytes.Equal(summed(body), b) {
		return nil, api.ErrSum
	}
	list, err := slow.Decode(kind, body, e.Count)
	if err != nil {
		return nil, codeOf(err)
	}
	if entryOf(list, b) != e {
		return nil, api.ErrIndex
	}
	return list, 0
}

// toldBlock tells what Decode must answer, by the words of P16.1.
func toldBlock(b []byte) ([]api.Sample, api.Code) {
	h, n, err := index.Get(b)
	if err != nil {
		return nil, codeOf(err)
	}
	var list []api.Sample
	for rest := b[n:]; len(h.List) > 0; h.List = h.List[1:] {
		size := h.List[0].Len
		part, code := toldChunk(h.Kind, h.List[0], rest[:size])
		if code != 0 {
			return list, code
		}
		list, rest = slices.Concat(list, part), rest[size:]
	}
	return list, 0
}

func TestExample(t *testing.T) {
	holdBlock(t, nil, nil, api.ErrMagic)
	holdBlock(t, []byte{}, nil, api.ErrMagic)
}

func TestWrittenOut(t *testing.T) {
	for _, f := range written() {
		b, list := f.block()
		holdBlock(t, b, list, 0)
		for _, p := range f.parts {
			hold(t, f.kind, entryOf(p.list, p.b), p.b, p.list)
			if g := good(t, f.kind, p.list); !bytes.Equal(g.b, p.b) {
				t.Errorf("the test's own chunk of %s is %v", short(p.list), g.b)
			}
		}
	}
}

// Good chunks of all numbers of samples, even and mixed ones.
func TestOfGoodChunks(t *testing.T) {
	counts := []int{255, 256, 257, 1000, 4096, 65533, 65534, 65535}
	for n := range 140 {
		counts = append(counts, n+1)
	}
	for _, n := range counts {
		for _, kind := range bothKinds() {
			for _, list := range [][]api.Sample{walk(uint64(n), n), even(n), steady(-5, n)} {
				p := good(t, kind, list)
				hold(t, kind, p.e, p.b, list)
			}
		}
	}
}

// One sample, T and V being at the ends of what they may be.
func TestOfOneSample(t *testing.T) {
	ends := []uint64{0, 1, 2, 255, all, all - 1, half, half - 1, half + 1, 1 << 32, 0x0123456789abcdef}
	for _, at := range ends {
		for _, v := range ends {
			list := []api.Sample{{T: int64(at), V: v}}
			b := summed(binary.BigEndian.AppendUint64(binary.BigEndian.AppendUint64(nil, at), v))
			e := index.Entry{Min: int64(at), Max: int64(at), Count: 1, Len: 20}
			for _, kind := range bothKinds() {
				hold(t, kind, e, b, list)
				holdBlock(t, laid(t, kind, piece{e, b}), list, 0)
			}
		}
	}
}

// Two and three samples of times from end to end, and of values alike and unlike.
func TestOfEdgeTimes(t *testing.T) {
	values := []uint64{0, all, half, 0x0123456789abcdef}
	times := edgeTimes()
	for i, from := range times {
		for k := i + 1; k < len(times); k++ {
			for v := range 16 {
				list := []api.Sample{{T: from, V: values[v%4]}, {T: times[k], V: values[v/4]}}
				if k+1 < len(times) {
					list = append(list, api.Sample{T: times[k+1], V: values[(v+k)%4]})
				}
				for _, kind := range bothKinds() {
					for n := 2; n <= len(list); n++ {
						p := good(t, kind, list[:n])
						hold(t, kind, p.e, p.b, list[:n])
					}
					for size := 1; size <= 3; size++ {
						holdBlock(t, packed(t, kind, list, size), list, 0)
					}
				}
			}
		}
	}
}

// All edge times in one list, of values 0, of all bits 1, and mixed.
func TestOfAllEdgeTimes(t *testing.T) {
	next := mixer(4)
	for _, value := range []func() uint64{func() uint64 { return 0 }, func() uint64 { return all }, next} {
		var list []api.Sample
		for _, at := range edgeTimes() {
			list = append(list, api.Sample{T: at, V: value()})
		}
		for _, kind := range bothKinds() {
			p := good(t, kind, list)
			hold(t, kind, p.e, p.b, list)
			for size := 1; size <= len(list)+1; size++ {
				holdBlock(t, packed(t, kind, list, size), list, 0)
			}
		}
	}
}

// spoilt tells an entry as it is, and others of the same Len, in which what is told later is wrong.
func spoilt(e index.Entry) []index.Entry {
	list := []index.Entry{e}
	for _, count := range []int{0, -1, 65536, 65535, e.Count + 1, e.Count - 1, math.MinInt, math.MaxInt} {
		other := e
		other.Count = count
		list = append(list, other)
	}
	for _, less := range []int64{1, -1, 1 << 40, least} {
		low, high, both := e, e, e
		low.Min -= less
		high.Max -= less
		both.Min, both.Max, both.Count = e.Min+less, e.Max+less, 0
		list = append(list, low, high, both)
	}
	return list
}

// chunks does something for good chunks of both kinds, those written out among them.
func chunks(t *testing.T, do func(kind int, p piece, list []api.Sample)) {
	t.Helper()
	for _, f := range written() {
		for _, p := range f.parts {
			do(f.kind, piece{entryOf(p.list, p.b), p.b}, p.list)
		}
	}
	for _, n := range []int{1, 2, 3, 5, 12, 33} {
		for _, list := range [][]api.Sample{walk(uint64(n), n), even(n), steady(7, n)} {
			for _, kind := range bothKinds() {
				do(kind, good(t, kind, list), list)
			}
		}
	}
}

// someKinds tells kinds, and numbers that are none.
func someKinds() []int { return append(bothKinds(), 0, 3, -1, math.MinInt, math.MaxInt) }

// Bytes that aren't just Len are told ahead of all else that is wrong.
func TestOfAnotherLen(t *testing.T) {
	chunks(t, func(_ int, p piece, _ []api.Sample) {
		bad := bytes.Clone(p.b)
		bad[len(bad)-1] ^= 1
		longer, behind := append(bytes.Clone(p.b), 0), append([]byte{0}, p.b...)
		again := summed(p.b)
		for _, e := range spoilt(p.e) {
			for _, kind := range someKinds() {
				for _, b := range [][]byte{nil, {}, p.b[:1], p.b[:3], p.b[:4], p.b[:len(p.b)-1], p.b[1:], longer, behind, again, summed(p.b[:len(p.b)-5]), make([]byte, 4)} {
					if len(b) != e.Len {
						holdError(t, kind, e, b, api.ErrArg)
					}
				}
				for _, size := range noLens(len(p.b)) {
					other := e
					other.Len = size
					holdError(t, kind, other, p.b, api.ErrArg)
					holdError(t, kind, other, bad, api.ErrArg)
				}
			}
		}
	})
}

// A Len that none may have is told of no bytes, and of few.
func TestOfNoLen(t *testing.T) {
	e := index.Entry{Min: 10, Max: 10, Count: 1, Len: 20}
	for size := range 5 {
		for _, no := range noLens(size) {
			if no == size {
				continue
			}
			for _, other := range spoilt(e) {
				other.Len = no
				for _, kind := range someKinds() {
					holdError(t, kind, other, make([]byte, size), api.ErrArg)
				}
			}
		}
		holdError(t, api.Xor, e, make([]byte, size), api.ErrArg)
	}
	for _, no := range append(noLens(0), 1, 2, 3, 4, 20) {
		e.Len = no
		holdError(t, api.Ints, e, nil, api.ErrArg)
		holdError(t, api.Ints, e, []byte{}, api.ErrArg)
	}
}

// Fewer than four bytes are too few, also where Len tells just as many.
func TestOfFewerThanASum(t *testing.T) {
	for size := range 4 {
		for _, e := range spoilt(index.Entry{Min: 10, Max: 10, Count: 1, Len: size}) {
			for _, kind := range append(noKinds(), bothKinds()...) {
				for _, fill := range []byte{0, 1, 128, 255} {
					holdError(t, kind, e, bytes.Repeat([]byte{fill}, size), api.ErrArg)
				}
			}
		}
		// What stands behind them in the same memory is none of them.
		p := good(t, api.Xor, even(1))
		p.e.Len = size
		holdError(t, api.Xor, p.e, p.b[:size], api.ErrArg)
	}
	holdError(t, api.Xor, index.Entry{}, nil, api.ErrArg)
	holdError(t, 0, index.Entry{}, nil, api.ErrArg)
}

// Each bit of a chunk, its sum's own among them, is seen by the sum, ahead of all that is told later.
func TestOfEachBitTurned(t *testing.T) {
	chunks(t, func(kind int, p piece, list []api.Sample) {
		for bit := range 8 * len(p.b) {
			b := bytes.Clone(p.b)
			b[bit/8] ^= 128 >> (bit % 8)
			for _, e := range spoilt(p.e) {
				holdError(t, kind, e, b, api.ErrSum)
			}
			for _, kind := range someKinds() {
				holdError(t, kind, p.e, b, api.ErrSum)
				holdError(t, kind, index.Entry{Len: p.e.Len}, b, api.ErrSum)
			}
		}
		hold(t, kind, p.e, p.b, list)
	})
}

// orders tells all orders of four bytes.
func orders(b []byte) [][]byte {
	var list [][]byte
	for code := range 256 {
		i, k, m, n := code&3, code>>2&3, code>>4&3, code>>6
		if 1<<i|1<<k|1<<m|1<<n == 15 {
			list = append(list, []byte{b[i], b[k], b[m], b[n]})
		}
	}
	return list
}

// The sum's four bytes in another order are another sum, and so is one of other bytes.
func TestOfOtherSums(t *testing.T) {
	chunks(t, func(kind int, p piece, list []api.Sample) {
		body, sum := p.b[:len(p.b)-4], p.b[len(p.b)-4:]
		tails := orders(sum)
		if len(tails) != 24 {
			t.Fatalf("%d orders", len(tails))
		}
		for _, other := range [][]byte{body[1:], body[:len(body)-1], p.b, nil, append(bytes.Clone(body), 0), append([]byte{0}, body...)} {
			tails = append(tails, binary.BigEndian.AppendUint32(nil, crc32.ChecksumIEEE(other)))
		}
		v := binary.BigEndian.Uint32(sum)
		for _, other := range []uint32{0, ^uint32(0), ^v, v + 1, v - 1, -v, v >> 8, v << 8, v >> 16, crc32.Checksum(body, crc32.MakeTable(crc32.Castagnoli))} {
			tails = append(tails, binary.BigEndian.AppendUint32(nil, other))
		}
		for _, tail := range tails {
			b := slices.Concat(body, tail)
			if bytes.Equal(tail, sum) {
				hold(t, kind, p.e, b, list)
				continue
			}
			for _, e := range spoilt(p.e) {
				for _, kind := range someKinds() {
					holdError(t, kind, e, b, api.ErrSum)
				}
			}
		}
		// The sum stands behind the others, not ahead of them.
		holdError(t, kind, p.e, slices.Concat(sum, body), api.ErrSum)
	})
}

// Just four bytes are no samples' bytes, and their sum: this is 0.
func TestOfASumAlone(t *testing.T) {
	e := index.Entry{Min: 10, Max: 10, Count: 1, Len: 4}
	zeros := make([]byte, 4)
	for _, other := range spoilt(e) {
		for _, kind := range append(noKinds(), bothKinds()...) {
			want := api.Code(api.ErrShort)
			if kind != api.Xor && kind != api.Ints {
				want = api.ErrKind
			}
			if other.Count < 1 || other.Count > 65535 {
				want = api.ErrArg
			}
			holdError(t, kind, other, zeros, want)
			for bit := range 32 {
				b := make([]byte, 4)
				b[bit/8] = 1 << (bit % 8)
				holdError(t, kind, other, b, api.ErrSum)
			}
			holdError(t, kind, other, []byte{255, 255, 255, 255}, api.ErrSum)
		}
	}
	holdError(t, api.Xor, index.Entry{Count: 1, Len: 4}, zeros, api.ErrShort)
	holdError(t, api.Ints, index.Entry{Count: 65535, Len: 4}, zeros, api.ErrShort)
}

// bodies tells bytes of all sorts: of samples, of none, and of such as are wrong.
func bodies(t *testing.T) [][]byte {
	t.Helper()
	list := [][]byte{nil, make([]byte, 1), make([]byte, 15), make([]byte, 16), make([]byte, 99), bytes.Repeat([]byte{255}, 99)}
	for _, kind := range bothKinds() {
		for _, n := range []int{1, 2, 5, 33} {
			body := bodyOf(t, kind, steady(3, n))
			list = append(list, body, body[:len(body)-1], append(bytes.Clone(body), 7))
		}
	}
	return list
}

// A Count that none may have is told behind the sum, ahead of the kind, the bytes, Min and Max.
func TestOfNoCount(t *testing.T) {
	for _, body := range bodies(t) {
		b := summed(body)
		for _, count := range noCounts() {
			for _, kind := range append(noKinds(), bothKinds()...) {
				holdError(t, kind, index.Entry{Min: 3, Max: 3, Count: count, Len: len(b)}, b, api.ErrArg)
				holdError(t, kind, index.Entry{Min: 9, Max: -9, Count: count, Len: len(b)}, b, api.ErrArg)
			}
		}
	}
	// There are as many samples, too.
	body := bodyOf(t, api.Xor, even(65535))
	b := summed(append(body, 0, 0))
	for _, count := range []int{65536, 65537, 65538, 65539} {
		for _, kind := range someKinds() {
			holdError(t, kind, index.Entry{Min: -70, Max: int64(count) - 71, Count: count, Len: len(b)}, b, api.ErrArg)
		}
	}
}

// What is no kind is told behind the sum and Count, ahead of the bytes, Min and Max.
func TestOfNoKind(t *testing.T) {
	for _, body := range bodies(t) {
		b := summed(body)
		for _, kind := range noKinds() {
			for _, count := range []int{1, 2, 5, 33, 300, 65535} {
				holdError(t, kind, index.Entry{Min: 3, Max: 3, Count: count, Len: len(b)}, b, api.ErrKind)
				holdError(t, kind, index.Entry{Min: 9, Max: -9, Count: count, Len: len(b)}, b, api.ErrKind)
			}
		}
	}
	chunks(t, func(_ int, p piece, _ []api.Sample) {
		for _, kind := range noKinds() {
			holdError(t, kind, p.e, p.b, api.ErrKind)
		}
	})
}

// otherEnds tells an entry as it is, and others whose Min and Max are wrong.
func otherEnds(e index.Entry) []index.Entry {
	low, high, both := e, e, e
	low.Min++
	high.Max--
	both.Min, both.Max = e.Max, e.Min-5
	return []index.Entry{e, low, high, both, {Count: e.Count, Len: e.Len}}
}

// Bytes that are cut off, the sum laid anew, tell none of the samples that are there, whatever Min and Max are.
func TestOfBytesCutOff(t *testing.T) {
	for _, n := range []int{1, 2, 3, 8, 33, 65} {
		for _, list := range [][]api.Sample{walk(uint64(n), n), even(n), steady(-9, n)} {
			for _, kind := range bothKinds() {
				body := bodyOf(t, kind, list)
				for size := range body {
					b := summed(body[:size])
					for _, e := range otherEnds(entryOf(list, b)) {
						holdError(t, kind, e, b, api.ErrShort)
					}
				}
			}
		}
	}
}

// More samples than the bytes have, and fewer: the bits that are missing, or left, are told ahead of Min and Max.
func TestOfAnotherCount(t *testing.T) {
	for _, n := range []int{1, 2, 3, 9, 32, 33, 100} {
		for _, kind := range bothKinds() {
			list := steady(5, n)
			p := good(t, kind, list)
			for _, count := range []int{n + 4, n + 5, n + 8, 2*n + 4, 1000, 65534, 65535} {
				p.e.Count = count
				for _, e := range otherEnds(p.e) {
					holdError(t, kind, e, p.b, api.ErrShort)
				}
			}
			for count := 1; count < n; count++ {
				for _, e := range otherEnds(entryOf(list[:count], p.b)) {
					holdError(t, kind, e, p.b, api.ErrForm)
				}
				// Min and Max of all samples, of which Count are asked.
				p.e.Count = count
				holdError(t, kind, p.e, p.b, api.ErrForm)
			}
		}
	}
}

// Bytes with more behind the samples than fills up the last byte with 0s are none of theirs, the sum laid anew.
func TestOfBytesBehind(t *testing.T) {
	for _, n := range []int{1, 2, 3, 4, 5, 6, 33} {
		for _, list := range [][]api.Sample{walk(uint64(n), n), even(n)} {
			for _, kind := range bothKinds() {
				body := bodyOf(t, kind, list)
				for _, tail := range [][]byte{{0}, {1}, {128}, {255}, {0, 0}, make([]byte, 4), make([]byte, 300), summed(body)[len(body):], summed(body)} {
					b := summed(slices.Concat(body, tail))
					for _, e := range otherEnds(entryOf(list, b)) {
						holdError(t, kind, e, b, api.ErrForm)
					}
				}
			}
		}
	}
}

// evenSize tells how many bits even's samples are.
func evenSize(n int) int {
	if n == 1 {
		return 128
	}
	return 128 + 10 + 2*(n-2)
}

// Bits that fill up the last byte may be samples, if Count asks for more, and those of samples may fill it up, if Count asks for fewer: Max decides.
func TestBitsThatFillUp(t *testing.T) {
	more, fewer := 0, 0
	for n := 1; n < 50; n++ {
		for _, kind := range bothKinds() {
			p := good(t, kind, even(n))
			bits := 8 * (len(p.b) - 4)
			for count := 1; count < n+9; count++ {
				list := even(count)
				e := entryOf(list, p.b)
				// Of the first sample alone the second one's bits are left: they begin with a 1.
				left := bits - evenSize(count)
				switch {
				case n == 1 && count > 1 || left < 0:
					holdError(t, kind, e, p.b, api.ErrShort)
				case left >= 8 || n > 1 && count == 1:
					holdError(t, kind, e, p.b, api.ErrForm)
				default:
					hold(t, kind, e, p.b, list)
					holdOtherEnds(t, kind, e, p.b)
					if count > n {
						more++
					}
					if count < n {
						fewer++
					}
				}
				// Max of n samples.
				if p.e.Count = count; p.e.Max != e.Max {
					_, want := toldChunk(kind, p.e, p.b)
					holdError(t, kind, p.e, p.b, want)
				}
			}
		}
	}
	if more < 40 || fewer < 40 {
		t.Errorf("only %d of more, %d of fewer", more, fewer)
	}
}

// One bit that is 1, fewer than 8 being behind the samples, makes them none of a chunk's: be it of a sample more, or of what fills up the last byte.
func TestOfABitBehind(t *testing.T) {
	seen := 0
	for n := 4; n < 30; n++ {
		// Behind the second sample each one has 4 bits: 0, 10 1.
		list := make([]api.Sample, n)
		for i := range list {
			list[i] = api.Sample{T: int64(i), V: uint64(6 + i%2)}
		}
		p := good(t, api.Xor, list)
		bits := 128 + 9 + 15 + 4*(n-2)
		if want := (bits + 7) / 8; len(p.b) != want+4 {
			t.Fatalf("the test's own chunk of %d samples is %d bytes", n, len(p.b))
		}
		hold(t, api.Xor, p.e, p.b, list)
		if left := 8*(len(p.b)-4) - bits + 4; left < 8 {
			for _, e := range otherEnds(entryOf(list[:n-1], p.b)) {
				holdError(t, api.Xor, e, p.b, api.ErrForm)
			}
			seen++
		}
		for fill := range 8*(len(p.b)-4) - bits {
			body := bytes.Clone(p.b[:len(p.b)-4])
			body[len(body)-1] |= 1 << fill
			for _, e := range otherEnds(p.e) {
				holdError(t, api.Xor, e, summed(body), api.ErrForm)
			}
			seen++
		}
	}
	if seen < 60 {
		t.Errorf("only %d", seen)
	}
}

// offs tells by how much times are other ones.
func offs() []int64 {
	return []int64{1, -1, 2, -2, 7, -7, 256, -256, 1000, -1000, 1 << 31, 1 << 32, -1 << 32, 1<<32 + 1, 1 << 62, least, greatest, least + 1}
}

// holdOtherEnds fails the test, if Chunk tells anything but ErrIndex, where Min, Max or both are other ones than a good chunk's.
func holdOtherEnds(t *testing.T, kind int, e index.Entry, b []byte) {
	t.Helper()
	for _, by := range offs() {
		low, high, both, apart := e, e, e, e
		low.Min += by
		high.Max += by
		both.Min, both.Max = e.Min+by, e.Max+by
		apart.Min, apart.Max = e.Min+by, e.Max-by
		holdError(t, kind, low, b, api.ErrIndex)
		holdError(t, kind, high, b, api.ErrIndex)
		holdError(t, kind, both, b, api.ErrIndex)
		holdError(t, kind, apart, b, api.ErrIndex)
	}
}

// Min and Max are the first and the last sample's T, both of them, and no other's.
func TestOfOtherEnds(t *testing.T) {
	chunks(t, func(kind int, p piece, list []api.Sample) {
		holdOtherEnds(t, kind, p.e, p.b)
		first, last := p.e.Min, p.e.Max
		for _, x := range list {
			for _, at := range []int64{x.T, x.T - 1, x.T + 1} {
				for _, e := range []index.Entry{{Min: at, Max: last}, {Min: first, Max: at}, {Min: at, Max: at}, {Min: at, Max: first}, {Min: last, Max: at}} {
					e.Count, e.Len = p.e.Count, p.e.Len
					if e == p.e {
						hold(t, kind, e, p.b, list)
					} else {
						holdError(t, kind, e, p.b, api.ErrIndex)
					}
				}
			}
		}
		// Values are no times.
		for _, e := range []index.Entry{{Min: int64(list[0].V), Max: last}, {Min: first, Max: int64(list[len(list)-1].V)}} {
			e.Count, e.Len = p.e.Count, p.e.Len
			if e != p.e {
				holdError(t, kind, e, p.b, api.ErrIndex)
			}
		}
	})
}

// Also of the most samples.
func TestOfTheMostSamples(t *testing.T) {
	for _, kind := range bothKinds() {
		for _, list := range [][]api.Sample{steady(least, 65535), walk(8, 65535)} {
			p := good(t, kind, list)
			hold(t, kind, p.e, p.b, list)
			for _, by := range []int64{1, -1} {
				low, high := p.e, p.e
				low.Min += by
				high.Max += by
				holdError(t, kind, low, p.b, api.ErrIndex)
				holdError(t, kind, high, p.b, api.ErrIndex)
			}
			p.e.Count++
			holdError(t, kind, p.e, p.b, api.ErrArg)
			p.e.Count--
			p.b[len(p.b)/2] ^= 1
			holdError(t, kind, p.e, p.b, api.ErrSum)
		}
	}
}

// row is a sample, and its bits behind those ahead of it, written out.
type row struct {
	x    api.Sample
	code string
}

// fault is bits that are no sample's behind those ahead.
type fault struct {
	kind  int
	ahead []row
	code  string
	want  api.Code
}

func zeros(n int) string { return strings.Repeat("0", n) }

func ones(n int) string { return strings.Repeat("1", n) }

// head tells a chunk's first row.
func head(at int64, v uint64) row {
	return row{api.Sample{T: at, V: v}, fmt.Sprintf("%064b%064b", uint64(at), v)}
}

// made tells a text's bytes, without what only parts it: 0s fill up the last one.
func made(s string) []byte {
	s = strings.NewReplacer(" ", "", ",", "").Replace(s)
	b := make([]byte, (len(s)+7)/8)
	for i, c := range s {
		if c == '1' {
			b[i/8] |= 128 >> (i % 8)
		}
	}
	return b
}

// list tells the samples ahead of a fault, and the text of all bits.
func (f fault) list() ([]api.Sample, string) {
	var list []api.Sample
	var text strings.Builder
	for _, r := range f.ahead {
		list = append(list, r.x)
		text.WriteString(r.code)
	}
	return list, text.String() + f.code
}

// faults tells faults of layer 8, written out.
func faults() []fault {
	var list []fault
	both := func(code string, want api.Code, ahead ...row) {
		list = append(list, fault{api.Xor, ahead, code, want}, fault{api.Ints, ahead, code, want})
	}
	first, second := head(10, 5), row{api.Sample{T: 20, V: 5}, "10 0001010, 0"}
	// Times that stand, or go back, or go around.
	both("0, 0", api.ErrOrder, first)
	both("10 1111111, 0", api.ErrOrder, first)
	both("110 100000000, 0", api.ErrOrder, first)
	both("1111 1"+zeros(63)+", 0", api.ErrOrder, first)
	both("10 1110110, 0", api.ErrOrder, first, second)
	both("10 1110101, 0", api.ErrOrder, first, second)
	both("0, 0", api.ErrOrder, head(least, 5))
	both("0, 0", api.ErrOrder, head(greatest, 5))
	both("10 0000001, 0", api.ErrOrder, head(greatest, 5))
	both("0, 0", api.ErrOrder, head(greatest-10, 5), row{api.Sample{T: greatest, V: 5}, "10 0001010, 0"})
	// Codes that aren't the number's own.
	for _, code := range []string{"10 0000000", "110 000111111", "1110 111100000000", "1111 " + zeros(53) + ones(11), "1111 " + ones(64)} {
		both(code, api.ErrForm, first)
		both(code, api.ErrForm, first, second)
		list = append(list, fault{api.Ints, []row{first, second}, "0" + code, api.ErrForm})
	}
	window := row{api.Sample{T: 30, V: 61}, "0, 11 111010 000010 111"}
	for _, code := range []string{"11 000001 111111", "11 000000 000000 0", "11 000000 000001 01"} {
		list = append(list, fault{api.Xor, []row{first, second}, "0" + code, api.ErrForm})
		list = append(list, fault{api.Xor, []row{first, second, window}, "0" + code, api.ErrForm})
	}
	list = append(list, fault{api.Xor, []row{first, second}, "0, 10", api.ErrForm})
	list = append(list, fault{api.Xor, []row{first, second, window}, "0, 10 000", api.ErrForm})
	return append(list, fault{api.Xor, []row{first, second, window}, "0, 11 111011 000000 1", api.ErrForm})
}

// faulty tells a fault's chunk, some bytes being behind the fault, with Max of all samples that it tells.
func (f fault) faulty(tail string) piece {
	list, text := f.list()
	b := summed(made(text + tail))
	e := entryOf(list, b)
	e.Count++
	return piece{e, b}
}

// Layer 8's errors are told, the sum laid anew, ahead of what is told of Min and Max, and with none of the samples ahead of them.
func TestOfFaults(t *testing.T) {
	for _, f := range faults() {
		for _, tail := range []string{zeros(8), ones(8), zeros(15), ones(16), zeros(200), ones(200)} {
			p := f.faulty(tail)
			for _, more := range []int{0, 1, 5, 65535 - p.e.Count} {
				e := p.e
				e.Count += more
				for _, other := range otherEnds(e) {
					holdError(t, f.kind, other, p.b, f.want)
				}
			}
		}
	}
}

// Where the sum is another one, or Len, these are told ahead of layer 8's errors.
func TestOfFaultsBehindOthers(t *testing.T) {
	for _, f := range faults() {
		p := f.faulty(zeros(20))
		e := p.e
		e.Len++
		holdError(t, f.kind, e, p.b, api.ErrArg)
		e = p.e
		e.Count = 65536
		holdError(t, f.kind, e, p.b, api.ErrArg)
		holdError(t, 3, p.e, p.b, api.ErrKind)
		p.b[3] ^= 4
		holdError(t, f.kind, p.e, p.b, api.ErrSum)
		holdError(t, 3, e, p.b, api.ErrSum)
	}
}

// Any bytes, most of them with their sum, and any entries are told as P16.1's words tell them.
func TestOfAnyChunks(t *testing.T) {
	seen := map[api.Code]int{}
	for start := range uint64(12000) {
		next := mixer(start)
		body := make([]byte, next()%30)
		for i := range body {
			body[i] = byte(next())
			if i > 16 && start%3 > 0 {
				body[i] &= byte(next() & next())
			}
		}
		b := summed(body)
		if start%9 == 0 {
			b[next()%uint64(len(b))] ^= byte(next())
		}
		for range 6 {
			kind := int(next() % 4)
			e := index.Entry{Min: int64(next()), Max: int64(next()), Count: int(next() % 7), Len: len(b) + int(next()%30/28)}
			if list, err := slow.Decode(kind, body, e.Count); len(list) > 0 && (err == nil || start%2 == 0) {
				e.Min, e.Max = list[0].T, list[len(list)-1].T
			}
			want, code := toldChunk(kind, e, b)
			seen[code]++
			if l, err := whole.Chunk(kind, e, b); !isCode(err, code) || !slices.Equal(l, want) {
				t.Fatalf("Chunk(%d, %v, %v): %v, %v; want %v, %v", kind, e, b, l, err, want, code)
			}
		}
	}
	for _, code := range []api.Code{0, api.ErrArg, api.ErrSum, api.ErrKind, api.ErrShort, api.ErrForm, api.ErrOrder} {
		if seen[code] < 100 {
			t.Errorf("%d only %d times", int(code), seen[code])
		}
	}
}

// sizes tells how many samples a chunk has in the tests.
func sizes() []int { return []int{1, 2, 3, 7, 32, 33} }

// What is packed is told: none, one and many, by small sizes and by more than there are.
func TestOfWhatIsPacked(t *testing.T) {
	for n := range 101 {
		for _, list := range [][]api.Sample{walk(uint64(n), n), even(n), steady(1<<40, n)} {
			for _, kind := range bothKinds() {
				for _, size := range append(sizes(), max(n-1, 1), max(n, 1), n+1, 2*n+1, 65535) {
					holdBlock(t, packed(t, kind, list, size), list, 0)
				}
			}
		}
	}
	for _, kind := range bothKinds() {
		for _, n := range []int{1000, 4096, 20000} {
			for _, size := range append(sizes(), 999, 1000, 1001, 65535) {
				list := walk(uint64(n+size), n)
				holdBlock(t, packed(t, kind, list, size), list, 0)
			}
		}
		list := walk(3, 2*65535+20)
		holdBlock(t, packed(t, kind, list, 65535), list, 0)
	}
}

// Many lists of mixed steps and values, by mixed sizes.
func TestOfMixedSamples(t *testing.T) {
	next := mixer(9)
	for start := range uint64(300) {
		list := walk(start, int(next()%300))
		size := 1 + int(next()>>(next()%60)%310)
		for _, kind := range bothKinds() {
			holdBlock(t, packed(t, kind, list, size), list, 0)
		}
	}
}

// As many chunks as there may be; and the last one may be the one that isn't good.
func TestOfTheMostChunks(t *testing.T) {
	for _, kind := range bothKinds() {
		for _, list := range [][]api.Sample{walk(3, 65535), even(65535)} {
			b := packed(t, kind, list, 1)
			holdBlock(t, b, list, 0)
			b[len(b)-20] ^= 1
			holdBlock(t, b, list[:65534], api.ErrSum)
			b[len(b)-20*30000] ^= 1
			holdBlock(t, b, list[:35535], api.ErrSum)
		}
	}
	list := walk(4, 2*65535)
	holdBlock(t, packed(t, api.Ints, list, 2), list, 0)
}

// Times may go on by just 1 where a chunk ends.
func TestOfChunksThatMeet(t *testing.T) {
	for _, from := range []int64{least, -6, -3, -1, 0, 1<<32 - 3, greatest - 8} {
		var list []api.Sample
		for i := range int64(9) {
			list = append(list, api.Sample{T: from + i, V: all})
		}
		for _, kind := range bothKinds() {
			for size := 1; size <= 10; size++ {
				holdBlock(t, packed(t, kind, list, size), list, 0)
			}
			for cut := range 1 << 8 {
				holdBlock(t, laid(t, kind, parted(t, kind, list, uint64(cut))...), list, 0)
			}
		}
	}
}

// parted tells a list's chunks: behind its i-th sample one ends, if the i-th bit is 1, from the lowest on.
func parted(t *testing.T, kind int, list []api.Sample, cuts uint64) []piece {
	t.Helper()
	var pieces []piece
	begin := 0
	for i := range list {
		if i+1 == len(list) || cuts>>i&1 == 1 {
			pieces = append(pieces, good(t, kind, list[begin:i+1]))
			begin = i + 1
		}
	}
	return pieces
}

// Chunks may be of unlike numbers of samples.
func TestOfUnlikeChunks(t *testing.T) {
	next := mixer(5)
	for start := range uint64(250) {
		list := walk(start, 1+int(start%64))
		for _, kind := range bothKinds() {
			for range 4 {
				holdBlock(t, laid(t, kind, parted(t, kind, list, next()&(next()|next()))...), list, 0)
			}
		}
	}
	for _, kind := range bothKinds() {
		list := walk(1, 70000)
		one, other, last := good(t, kind, list[:1]), good(t, kind, list[1:65536]), good(t, kind, list[65536:])
		holdBlock(t, laid(t, kind, one, other, last), list, 0)
	}
}

// Bytes that begin with no index tell layer 14's error, and no samples, whatever stands behind.
func TestOfNoIndex(t *testing.T) {
	list := steady(1, 5)
	for _, kind := range bothKinds() {
		for size := 1; size <= 6; size++ {
			b := packed(t, kind, list, size)
			n := indexSize(t, b)
			front, rest := b[:n-4], b[n:]
			// The bytes ahead of the index's sum are changed, and the sum is laid anew.
			anew := func(change func(b []byte) []byte) []byte {
				return slices.Concat(summed(change(bytes.Clone(front))), rest)
			}
			with := func(at int, v ...byte) []byte {
				return anew(func(b []byte) []byte { return slices.Replace(b, at, at+1, v...) })
			}
			for _, c := range []struct {
				b    []byte
				want api.Code
			}{
				{b[:0], api.ErrMagic},
				{b[:3], api.ErrMagic},
				{b[1:], api.ErrMagic},
				{append([]byte{0}, b...), api.ErrMagic},
				{rest, api.ErrMagic},
				{with(0, 70), api.ErrMagic},
				{with(3, 50), api.ErrMagic},
				{b[:4], api.ErrShort},
				{b[:5], api.ErrShort},
				{b[:n-1], api.ErrShort},
				{with(4, 0), api.ErrKind},
				{with(4, 3), api.ErrKind},
				{with(4, 255), api.ErrKind},
				{with(5, 129, 0), api.ErrForm},
				{with(5, 255, 255, 255, 255, 255, 255, 255, 255, 255, 2), api.ErrForm},
				{with(14, 128, 0), api.ErrForm},
				{with(5, 128, 128, 4), api.ErrLarge},
				{with(5, 255, 255, 255, 255, 255, 255, 255, 255, 255, 1), api.ErrLarge},
				{slices.Concat(front, []byte{1, 2, 3, 4}, rest), api.ErrSum},
				{slices.Concat(front, rest), api.ErrSum},
				{with(len(front)-1, 3), api.ErrIndex},
				{with(len(front)-1, 21, 0)[:len(b)], api.ErrSum},
				{with(len(front)-2, 0), api.ErrIndex},
				{with(len(front)-2, 128, 128, 4), api.ErrIndex},
				{slices.Concat(b, []byte{0}), api.ErrIndex},
				{b[:len(b)-1], api.ErrIndex},
				{b[:n], api.ErrIndex},
				{slices.Concat(b, b), api.ErrIndex},
			} {
				if _, _, err := index.Get(c.b); !isCode(err, c.want) {
					t.Fatalf("the test's own bytes %v tell %v, not %v", c.b, err, c.want)
				}
				holdBlock(t, c.b, nil, c.want)
			}
		}
	}
}

// Where the index may not be, no samples are told, good as the chunks are.
func TestOfNoIndexOfGoodChunks(t *testing.T) {
	for _, kind := range bothKinds() {
		one, two, three := good(t, kind, steady(1, 3)), good(t, kind, steady(4000, 1)), good(t, kind, steady(9000, 4))
		// The test lays these indices itself: layer 14 doesn't.
		lay := func(pieces ...piece) []byte {
			front := []byte{71, 84, 83, 49, byte(kind), byte(len(pieces))}
			var rest []byte
			for _, p := range pieces {
				front = binary.BigEndian.AppendUint64(front, uint64(p.e.Min))
				front = binary.AppendUvarint(front, uint64(p.e.Max)-uint64(p.e.Min))
				front = binary.AppendUvarint(front, uint64(p.e.Count))
				front = binary.AppendUvarint(front, uint64(p.e.Len))
				rest = append(rest, p.b...)
			}
			return append(summed(front), rest...)
		}
		list := slices.Concat(steady(1, 3), steady(4000, 1), steady(9000, 4))
		holdBlock(t, lay(one, two, three), list, 0)
		holdBlock(t, lay(one, three), slices.Concat(list[:3], list[4:]), 0)
		for _, pieces := range [][]piece{{two, one}, {one, three, two}, {one, one}, {one, two, two}, {two, two, three}} {
			holdBlock(t, lay(pieces...), nil, api.ErrIndex)
		}
		for _, spoil := range []func(e *index.Entry){
			func(e *index.Entry) { e.Count = 0 },
			func(e *index.Entry) { e.Count = 65536 },
			func(e *index.Entry) { e.Len-- },
			func(e *index.Entry) { e.Len++ },
			func(e *index.Entry) { e.Len = 0 },
			func(e *index.Entry) { e.Len = 3 },
			func(e *index.Entry) { e.Len += 1 << 31 },
			func(e *index.Entry) { e.Max = e.Min - 1 },
			func(e *index.Entry) { e.Min, e.Max = 1<<62, least },
		} {
			for i := range 3 {
				pieces := []piece{one, two, three}
				spoil(&pieces[i].e)
				holdBlock(t, lay(pieces...), nil, api.ErrIndex)
			}
		}
		// A chunk that isn't good, too, is not told then.
		two.b = bytes.Clone(two.b)
		two.b[4] ^= 1
		holdBlock(t, lay(one, two, three), list[:3], api.ErrSum)
		holdBlock(t, append(lay(one, two, three), 0), nil, api.ErrIndex)
		holdBlock(t, lay(three, two), nil, api.ErrIndex)
	}
}

// Blocks that are cut off at any place, or have a byte too much, tell none of their samples.
func TestCutOffAnywhere(t *testing.T) {
	for _, f := range written() {
		b, _ := f.block()
		holdCutOff(t, b)
	}
	for _, n := range []int{0, 1, 2, 5, 40} {
		for _, kind := range bothKinds() {
			for _, size := range []int{1, 2, 5, 40} {
				holdCutOff(t, packed(t, kind, walk(uint64(n), n), size))
			}
		}
	}
}

// holdCutOff fails the test, if the beginnings of a block, or longer bytes, tell anything but layer 14's error.
func holdCutOff(t *testing.T, b []byte) {
	t.Helper()
	n := indexSize(t, b)
	for size := range b {
		want := api.Code(api.ErrIndex)
		if size < n {
			want = api.ErrShort
		}
		if size < 4 {
			want = api.ErrMagic
		}
		holdBlock(t, b[:size], nil, want)
		holdBlock(t, slices.Clip(b[:size:size]), nil, want)
	}
	for _, more := range []int{1, 2, 4, 20, 300} {
		for _, fill := range []byte{0, 255} {
			holdBlock(t, slices.Concat(b, bytes.Repeat([]byte{fill}, more)), nil, api.ErrIndex)
		}
	}
}

// Each bit of an index is seen by layer 14: no samples are told then.
func TestOfEachBitOfAnIndexTurned(t *testing.T) {
	for _, f := range written() {
		b, list := f.block()
		for bit := range 8 * len(f.front) {
			bad := bytes.Clone(b)
			bad[bit/8] ^= 128 >> (bit % 8)
			_, _, err := index.Get(bad)
			if err == nil {
				t.Fatalf("the index of %v is got, bit %d being turned", b, bit)
			}
			holdBlock(t, bad, nil, codeOf(err))
		}
		holdBlock(t, b, list, 0)
	}
}

// spoil makes a good chunk one that isn't good, by the error that it is told by.
type spoil struct {
	change func(p piece) piece
	want   api.Code
}

// spoils tells reasons why a chunk isn't good: each of them has the sum laid anew, but for those that are the sum. The chunk is steady's.
func spoils(kind int) []spoil {
	var list []spoil
	add := func(want api.Code, change func(p piece) piece) { list = append(list, spoil{change, want}) }
	// turned turns a bit of the chunk; from below 0 on it is counted from behind.
	turned := func(at int) {
		add(api.ErrSum, func(p piece) piece {
			p.b = bytes.Clone(p.b)
			p.b[(at+len(p.b))%len(p.b)] ^= 1 << (uint(at) % 8)
			return p
		})
	}
	for _, at := range []int{0, 7, 15, -1, -2, -4, -5} {
		turned(at)
	}
	// body changes the bytes ahead of the sum.
	body := func(want api.Code, change func(b []byte) []byte) {
		add(want, func(p piece) piece {
			p.b = summed(change(bytes.Clone(p.b[:len(p.b)-4])))
			p.e.Len = len(p.b)
			return p
		})
	}
	body(api.ErrShort, func(b []byte) []byte { return b[:len(b)-1] })
	body(api.ErrShort, func(b []byte) []byte { return b[:15] })
	body(api.ErrShort, func(b []byte) []byte { return nil })
	body(api.ErrForm, func(b []byte) []byte { return append(b, 0) })
	body(api.ErrForm, func(b []byte) []byte { return append(b, summed(b)...) })
	// entry changes what the index tells.
	entry := func(want api.Code, change func(e *index.Entry)) {
		add(want, func(p piece) piece {
			change(&p.e)
			return p
		})
	}
	entry(api.ErrShort, func(e *index.Entry) { e.Count += 5 })
	entry(api.ErrShort, func(e *index.Entry) { e.Count = 65535 })
	entry(api.ErrIndex, func(e *index.Entry) { e.Min-- })
	entry(api.ErrIndex, func(e *index.Entry) { e.Max++ })
	entry(api.ErrIndex, func(e *index.Entry) { e.Max += 800 })
	entry(api.ErrIndex, func(e *index.Entry) { e.Min, e.Max = e.Min-100, e.Max+100 })
	entry(api.ErrIndex, func(e *index.Entry) { e.Min, e.Max = e.Max+5, e.Max+5 })
	entry(api.ErrIndex, func(e *index.Entry) { e.Min, e.Max = e.Min-5, e.Min-5 })
	for _, f := range faults() {
		if f.kind != kind || f.ahead[0].x.T != 10 {
			continue
		}
		add(f.want, func(p piece) piece {
			bad := f.faulty(zeros(20))
			p.e.Count, p.e.Len, p.b = bad.e.Count, bad.e.Len, bad.b
			return p
		})
	}
	return list
}

// steadyPieces tells good chunks of so many steady samples each, with room for other Mins and Maxes between.
func steadyPieces(t *testing.T, kind int, counts ...int) ([]piece, [][]api.Sample) {
	t.Helper()
	var pieces []piece
	var lists [][]api.Sample
	for i, n := range counts {
		list := steady(1_000_000*int64(i-1), n)
		pieces = append(pieces, good(t, kind, list))
		lists = append(lists, list)
	}
	return pieces, lists
}

// The first chunk that isn't good, wherever it is, ends what is told: the samples of all chunks ahead of it, and its error, for each reason.
func TestOfTheFirstThatIsNotGood(t *testing.T) {
	for _, counts := range [][]int{{1}, {4}, {1, 1}, {3, 1, 5}, {1, 2, 3, 4, 5, 6, 7}, {33, 32, 1, 70}} {
		for _, kind := range bothKinds() {
			pieces, lists := steadyPieces(t, kind, counts...)
			holdBlock(t, laid(t, kind, pieces...), slices.Concat(lists...), 0)
			for i := range pieces {
				ahead := slices.Concat(lists[:i]...)
				for _, s := range spoils(kind) {
					bad := slices.Clone(pieces)
					bad[i] = s.change(bad[i])
					holdError(t, kind, bad[i].e, bad[i].b, s.want)
					holdBlock(t, laid(t, kind, bad...), ahead, s.want)
				}
			}
		}
	}
}

// What is behind the first that isn't good isn't told, for whatever reason others aren't, either.
func TestOfTwoThatAreNotGood(t *testing.T) {
	for _, kind := range bothKinds() {
		pieces, lists := steadyPieces(t, kind, 2, 3, 1, 4, 2)
		for _, one := range spoils(kind) {
			for _, other := range spoils(kind) {
				for _, at := range [][2]int{{0, 1}, {0, 4}, {1, 2}, {1, 3}, {2, 4}, {3, 4}} {
					bad := slices.Clone(pieces)
					bad[at[0]], bad[at[1]] = one.change(bad[at[0]]), other.change(bad[at[1]])
					holdBlock(t, laid(t, kind, bad...), slices.Concat(lists[:at[0]]...), one.want)
				}
			}
		}
		// None of them is good.
		for _, s := range spoils(kind) {
			bad := slices.Clone(pieces)
			for i, p := range bad {
				bad[i] = s.change(p)
			}
			holdBlock(t, laid(t, kind, bad...), nil, s.want)
		}
	}
}

// A Count of fewer than there are, in each chunk.
func TestOfCountsOfOneFewer(t *testing.T) {
	for _, kind := range bothKinds() {
		pieces, lists := steadyPieces(t, kind, 2, 3, 9, 40, 2)
		for i := range pieces {
			for _, fewer := range []int{1, len(lists[i]) - 1} {
				bad := slices.Clone(pieces)
				bad[i].e.Count -= fewer
				holdBlock(t, laid(t, kind, bad...), slices.Concat(lists[:i]...), api.ErrForm)
			}
		}
	}
}

// Chunks whose bytes change places are good in themselves, but not where they stand.
func TestOfChunksThatChangePlaces(t *testing.T) {
	for _, kind := range bothKinds() {
		pieces, lists := steadyPieces(t, kind, 1, 1, 1, 1)
		for i := range pieces {
			for k := i + 1; k < len(pieces); k++ {
				bad := slices.Clone(pieces)
				bad[i].b, bad[k].b = bad[k].b, bad[i].b
				holdBlock(t, laid(t, kind, bad...), slices.Concat(lists[:i]...), api.ErrIndex)
				bad = slices.Clone(pieces)
				bad[k].b = bad[i].b
				holdBlock(t, laid(t, kind, bad...), slices.Concat(lists[:k]...), api.ErrIndex)
			}
		}
	}
}

// A chunk is read by the kind that the index tells, all of a block by the same.
func TestOfTheOtherKind(t *testing.T) {
	seen := 0
	for _, n := range []int{2, 3, 10} {
		for _, kind := range bothKinds() {
			pieces, lists := steadyPieces(t, kind, n, n, n)
			others, _ := steadyPieces(t, api.Xor+api.Ints-kind, n, n, n)
			for i := range pieces {
				bad := slices.Clone(pieces)
				bad[i] = others[i]
				_, want := toldChunk(kind, others[i].e, others[i].b)
				if want == 0 {
					continue
				}
				seen++
				holdBlock(t, laid(t, kind, bad...), slices.Concat(lists[:i]...), want)
			}
		}
	}
	if seen < 10 {
		t.Errorf("only %d", seen)
	}
	// Of one sample both kinds' chunks are the same.
	list := steady(5, 1)
	for _, kind := range bothKinds() {
		holdBlock(t, laid(t, kind, good(t, api.Xor+api.Ints-kind, list)), list, 0)
	}
}

// In a block, too, the bits that fill up a chunk's last byte may be samples: Max decides.
func TestBitsThatFillUpInABlock(t *testing.T) {
	ahead, far := steady(-1_000_000, 3), steady(1_000_000, 2)
	for _, kind := range bothKinds() {
		for n := 3; n < 12; n++ {
			for count := 2; count < n+6; count++ {
				p := good(t, kind, even(n))
				bits := 8 * (len(p.b) - 4)
				p.e.Count = count
				one, other := p, p
				one.e.Max = even(count)[count-1].T
				other.e.Max = one.e.Max + 1
				list, want, wantOther := slices.Concat(ahead, even(count), far), api.Code(0), api.Code(api.ErrIndex)
				if left := bits - evenSize(count); left < 0 {
					list, want, wantOther = ahead, api.ErrShort, api.ErrShort
				} else if left >= 8 {
					list, want, wantOther = ahead, api.ErrForm, api.ErrForm
				}
				holdBlock(t, laid(t, kind, good(t, kind, ahead), one, good(t, kind, far)), list, want)
				holdBlock(t, laid(t, kind, good(t, kind, ahead), other, good(t, kind, far)), ahead, wantOther)
			}
		}
	}
}

// turnedTells tells whether bytes, one of them turned by some bits, tell these samples, and ErrSum.
func turnedTells(b []byte, at int, by byte, ahead []api.Sample) bool {
	bad := bytes.Clone(b)
	bad[at] ^= by
	l, err := whole.Decode(bad)
	return isCode(err, api.ErrSum) && slices.Equal(l, ahead)
}

// holdTurned fails the test, if what is packed, with bits of its chunks turned, tells anything but the samples of the chunks ahead, fewer than all, and ErrSum.
func holdTurned(t *testing.T, kind int, list []api.Sample, size, step int, turns func(at int) []byte) {
	b, err := pack.Pack(kind, list, size)
	if err != nil {
		t.Errorf("%d, %s by %d: %v", kind, short(list), size, err)
		return
	}
	h, begin, _ := index.Get(b)
	for i, e := range h.List {
		end := begin + e.Len
		for at := begin; at < end; at += step {
			for _, by := range turns(at) {
				if !turnedTells(b, at, by, list[:i*size]) {
					t.Errorf("%d, %s by %d: byte %d turned by %d isn't told", kind, short(list), size, at, by)
					return
				}
			}
		}
		begin = end
	}
}

// What was packed, with any bit of its chunks turned, tells its first samples, as they were, fewer than all, and ErrSum.
func TestOfAnyBitTurned(t *testing.T) {
	var wg sync.WaitGroup
	for _, kind := range bothKinds() {
		for start := range uint64(30) {
			wg.Go(func() {
				for _, n := range []int{1, 2, 3, 5, 12, 40} {
					lists := [][]api.Sample{walk(start+uint64(n), n), even(n), steady(int64(start), n)}
					for _, size := range []int{1, 2, 3, 7, 32, 33, n, n + 1} {
						holdTurned(t, kind, lists[start%3], size, 1, func(at int) []byte {
							if n == 40 {
								return []byte{1 << (at % 8), byte(at*37) | 1}
							}
							return []byte{1, 2, 4, 8, 16, 32, 64, 128, 255, byte(at*37) | 1}
						})
					}
				}
			})
		}
	}
	wg.Wait()
}

// So have greater chunks, and more of them.
func TestOfAnyBitTurnedInGreatBlocks(t *testing.T) {
	var wg sync.WaitGroup
	for _, kind := range bothKinds() {
		for _, size := range []int{1, 33, 999, 3000, 65535} {
			wg.Go(func() {
				list := walk(uint64(size), 3000)
				holdTurned(t, kind, list[:min(3000, 600*size)], size, 131, func(at int) []byte { return []byte{1 << (at % 8)} })
			})
		}
	}
	wg.Wait()
}

// Any bits of any blocks being turned, bytes cut out or put in, Decode tells what P16.1's words tell.
func TestOfAnyBlocks(t *testing.T) {
	seen := map[api.Code]int{}
	some := 0
	for start := range uint64(6000) {
		next := mixer(start)
		kind := 1 + int(next()%2)
		b := packed(t, kind, walk(start, int(next()%30)), 1+int(next()%12))
		for range next() % 4 {
			at := int(next()>>1) % len(b)
			switch next() % 5 {
			case 0:
				b = b[:at+1]
			case 1:
				b = slices.Insert(b, at, byte(next()))
			default:
				b[at] ^= 1 << (next() % 8)
			}
		}
		want, code := toldBlock(b)
		seen[code]++
		if code != 0 && len(want) > 0 {
			some++
		}
		holdBlock(t, b, want, code)
	}
	for _, code := range []api.Code{0, api.ErrMagic, api.ErrShort, api.ErrKind, api.ErrSum, api.ErrIndex} {
		if seen[code] < 20 {
			t.Errorf("%d only %d times", int(code), seen[code])
		}
	}
	if some < 300 {
		t.Errorf("only %d with some samples and an error", some)
	}
}

// Any numbers in an index, and any bytes in chunks, the sums laid, are told as P16.1's words tell them.
func TestOfAnyIndices(t *testing.T) {
	seen := map[api.Code]int{}
	for start := range uint64(4000) {
		next := mixer(start)
		kind := 1 + int(next()%2)
		var pieces []piece
		for i := range next() % 6 {
			list := steady(int64(i)*1_000_000, 1+int(next()%9))
			p := good(t, kind, list)
			switch next() % 12 {
			case 4:
				p = good(t, api.Xor+api.Ints-kind, list)
			case 0:
				p.e.Count = 1 + int(next()%12)
			case 1:
				p.e.Min -= int64(next() % 3)
			case 2:
				p.e.Max += int64(next() % 3)
			case 3:
				p.b = summed(append(p.b[:16], byte(next()), byte(next()), byte(next()), byte(next())))
				p.e.Count, p.e.Len = 2, len(p.b)
			}
			pieces = append(pieces, p)
		}
		b := laid(t, kind, pieces...)
		want, code := toldBlock(b)
		seen[code]++
		holdBlock(t, b, want, code)
	}
	for _, code := range []api.Code{0, api.ErrShort, api.ErrForm, api.ErrOrder, api.ErrIndex} {
		if seen[code] < 20 {
			t.Errorf("%d only %d times", int(code), seen[code])
		}
	}
}

// calls tells many calls, of all answers: each of them tells samples of bytes.
func calls(t *testing.T, do func(name string, b []byte, call func(b []byte) ([]api.Sample, error))) {
	t.Helper()
	one := func(kind int, e index.Entry, b []byte) {
		do(fmt.Sprintf("Chunk(%d, %v, %s)", kind, e, brief(b)), bytes.Clone(b), func(b []byte) ([]api.Sample, error) { return whole.Chunk(kind, e, b) })
	}
	block := func(b []byte) {
		do(fmt.Sprintf("Decode(%s)", brief(b)), bytes.Clone(b), whole.Decode)
	}
	chunks(t, func(kind int, p piece, _ []api.Sample) {
		for _, e := range spoilt(p.e) {
			one(kind, e, p.b)
		}
		one(3, p.e, p.b)
		one(kind, p.e, p.b[1:])
		one(kind, p.e, append(bytes.Clone(p.b[1:]), 1))
	})
	for _, f := range faults() {
		p := f.faulty(zeros(30))
		one(f.kind, p.e, p.b)
	}
	for _, f := range written() {
		b, _ := f.block()
		block(b)
		block(b[:len(b)-1])
		block(append(b, 9))
	}
	for _, kind := range bothKinds() {
		for _, size := range []int{1, 3, 40} {
			b := packed(t, kind, walk(9, 40), size)
			block(b)
			b[len(b)-30] ^= 1
			block(b)
			b[8] ^= 1
			block(b)
		}
		pieces, _ := steadyPieces(t, kind, 2, 3, 4)
		for _, s := range spoils(kind) {
			bad := slices.Clone(pieces)
			bad[1] = s.change(bad[1])
			block(laid(t, kind, bad...))
		}
		block(packed(t, kind, nil, 1))
	}
	block(nil)
}

// turnBytes turns every bit of a slice's memory, that behind its end, too.
func turnBytes(b []byte) {
	b = b[:cap(b)]
	for i := range b {
		b[i] = ^b[i]
	}
}

// turn turns every bit of samples' memory, that behind their end, too.
func turn(list []api.Sample) {
	list = list[:cap(list)]
	for i, x := range list {
		list[i] = api.Sample{T: ^x.T, V: ^x.V}
	}
}

// What is handed in stands as it was, and what stands around it in the same memory: this is nothing to the answer, either.
func TestTheBytesStayAsTheyWere(t *testing.T) {
	calls(t, func(name string, b []byte, call func(b []byte) ([]api.Sample, error)) {
		want, wantErr := call(slices.Clip(bytes.Clone(b)))
		for _, around := range []byte{0, 255, 0x80, 0x5a} {
			room := bytes.Repeat([]byte{around}, 40)
			memory := slices.Concat(room, b, room)
			before := bytes.Clone(memory)
			l, err := call(memory[40 : 40+len(b)])
			if !bytes.Equal(memory, before) {
				t.Fatalf("%s: the bytes were changed", name)
			}
			if !slices.Equal(l, want) || !isCode(err, codeOf(wantErr)) {
				t.Fatalf("%s: %s, %v; want %s, %v", name, short(l), err, short(want), wantErr)
			}
			turn(l)
			if !bytes.Equal(memory, before) {
				t.Fatalf("%s: the bytes were changed by the samples", name)
			}
		}
	})
}

// What is changed in the bytes afterwards changes nothing that was told; and of the bytes as they are then is told what is true of them.
func TestTheBytesAreNotKept(t *testing.T) {
	calls(t, func(name string, b []byte, call func(b []byte) ([]api.Sample, error)) {
		given := bytes.Clone(b)
		l, err := call(given)
		before := slices.Clone(l)
		turnBytes(given)
		if !slices.Equal(l, before) {
			t.Fatalf("%s: the samples hang on the bytes behind the call", name)
		}
		call(given)
		if !slices.Equal(l, before) {
			t.Fatalf("%s: the samples hang on a later call", name)
		}
		turnBytes(given)
		if again, err2 := call(given); !slices.Equal(again, before) || !isCode(err2, codeOf(err)) {
			t.Fatalf("%s: %s, %v; was %s, %v", name, short(again), err2, short(before), err)
		}
	})
}

// What is changed in samples that were told changes no other answer, neither an earlier nor a later one.
func TestAnswersAreNewMemory(t *testing.T) {
	calls(t, func(name string, b []byte, call func(b []byte) ([]api.Sample, error)) {
		one, err := call(b)
		want := slices.Clone(one)
		other, _ := call(b)
		turn(one)
		if !slices.Equal(other, want) {
			t.Fatalf("%s: two answers share memory", name)
		}
		third, err3 := call(b)
		if !slices.Equal(third, want) || !isCode(err3, codeOf(err)) {
			t.Fatalf("%s: %s, %v; was %s, %v", name, short(third), err3, short(want), err)
		}
		turn(other)
		if !slices.Equal(third, want) {
			t.Fatalf("%s: two answers share memory", name)
		}
	})
}

// What was told stays as it was, whatever is asked behind it.
func TestWhatWasToldStays(t *testing.T) {
	var answers, copies [][]api.Sample
	calls(t, func(_ string, b []byte, call func(b []byte) ([]api.Sample, error)) {
		l, _ := call(b)
		answers, copies = append(answers, l), append(copies, slices.Clone(l))
	})
	for i, l := range answers {
		if !slices.Equal(l, copies[i]) {
			t.Fatalf("the %d-th answer was %s, is %s", i, short(copies[i]), short(l))
		}
		turn(l)
	}
}

// A call hangs on what it is given alone, not on what an earlier one saw, nor on its error.
func TestNothingIsKept(t *testing.T) {
	for _, f := range written() {
		b, list := f.block()
		for _, g := range written() {
			c, other := g.block()
			holdBlock(t, b, list, 0)
			holdBlock(t, c[:len(c)-1], nil, codeOf(lastError(c)))
			holdBlock(t, c, other, 0)
			holdBlock(t, nil, nil, api.ErrMagic)
			holdBlock(t, b, list, 0)
			for _, p := range g.parts {
				e := entryOf(p.list, p.b)
				hold(t, g.kind, e, p.b, p.list)
				holdError(t, 3, e, p.b, api.ErrKind)
				holdError(t, g.kind, index.Entry{}, p.b, api.ErrArg)
			}
			holdBlock(t, b, list, 0)
		}
	}
}

// lastError tells layer 14's error of bytes without their last one.
func lastError(b []byte) error {
	_, _, err := index.Get(b[:len(b)-1])
	return err
}

// Calls that go on at the same time know nothing of each other.
func TestCallsAtTheSameTime(t *testing.T) {
	var wg sync.WaitGroup
	for i := range 8 {
		kind := 1 + i%2
		list := walk(uint64(i), 400+i)
		b := packed(t, kind, list, 1+9*i)
		p := good(t, kind, list)
		wg.Go(func() {
			for range 60 {
				l, err := whole.Decode(b)
				m, err2 := whole.Chunk(kind, p.e, p.b)
				if err != nil || err2 != nil || !slices.Equal(l, list) || !slices.Equal(m, list) {
					t.Errorf("%d, %s: %s, %v; %s, %v", kind, short(list), short(l), err, short(m), err2)
					return
				}
			}
		})
	}
	wg.Wait()
}

// Chunk and Decode tell the same of a chunk, alone and in a block, the index being laid about it.
func TestBothTellAlike(t *testing.T) {
	for _, kind := range bothKinds() {
		pieces, _ := steadyPieces(t, kind, 7)
		for _, s := range append(spoils(kind), spoil{func(p piece) piece { return p }, 0}) {
			p := s.change(pieces[0])
			l, err := whole.Chunk(kind, p.e, p.b)
			holdBlock(t, laid(t, kind, p), l, s.want)
			if !isCode(err, s.want) || (len(l) == 7) != (err == nil) {
				t.Fatalf("%d, %v: %s, %v", kind, p.e, short(l), err)
			}
		}
	}
}
