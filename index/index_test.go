package index_test

import (
	"bytes"
	"encoding/binary"
	"fmt"
	"hash/crc32"
	"math"
	"math/big"
	"slices"
	"testing"

	"gaiter/api"
	"gaiter/index"
)

// The tests hold Put and Get against bytes written out, sums among them, and, of any heads and bytes, against P14.1's words by numbers that know no end; sums and numbers of bytes are the library's there, not those of layers 3 and 13.

const (
	least    = math.MinInt64
	greatest = math.MaxInt64
	all      = uint64(math.MaxUint64)
	mostLen  = math.MaxInt32
)

func entry(first, last int64, count, size int) index.Entry {
	return index.Entry{Min: first, Max: last, Count: count, Len: size}
}

func head(kind int, list ...index.Entry) index.Head { return index.Head{Kind: kind, List: list} }

// plain tells a chunk that may be, whatever the time is.
func plain(at int64) index.Entry { return entry(at, at, 1, 4) }

// join tells bytes one behind the other, in new memory without room behind them.
func join(parts ...[]byte) []byte { return slices.Clip(slices.Concat(parts...)) }

func zeros(n int) []byte { return make([]byte, n) }

func ones(n int) []byte { return bytes.Repeat([]byte{255}, n) }

// summed tells bytes with their sum behind them.
func summed(parts ...[]byte) []byte {
	b := join(parts...)
	return join(b, binary.BigEndian.AppendUint32(nil, crc32.ChecksumIEEE(b)))
}

// num tells a number's bytes, as layer 3's chapter says them.
func num(v uint64) []byte { return binary.AppendUvarint(nil, v) }

// when tells a time's bytes.
func when(at int64) []byte { return binary.BigEndian.AppendUint64(nil, uint64(at)) }

// front tells what is ahead of the chunks.
func front(kind byte, chunks uint64) []byte {
	return join([]byte{71, 84, 83, 49, kind}, num(chunks))
}

// chunk tells the bytes of a chunk, of any numbers.
func chunk(first int64, span, count, size uint64) []byte {
	return join(when(first), num(span), num(count), num(size))
}

// span tells Max less Min.
func span(e index.Entry) uint64 {
	return new(big.Int).Sub(big.NewInt(e.Max), big.NewInt(e.Min)).Uint64()
}

// laid tells an index's bytes, as the chapter says them.
func laid(h index.Head) []byte {
	b := front(byte(h.Kind), uint64(len(h.List)))
	for _, e := range h.List {
		b = append(b, when(e.Min)...)
		b = append(b, num(span(e))...)
		b = append(b, num(uint64(e.Count))...)
		b = append(b, num(uint64(e.Len))...)
	}
	return summed(b)
}

// behind tells how many bytes the chunks are.
func behind(h index.Head) int {
	sum := 0
	for _, e := range h.List {
		sum += e.Len
	}
	return sum
}

// mixer tells numbers that hang on a start alone, the lowest bits as mixed as the highest ones.
func mixer(start uint64) func() uint64 {
	v := start
	return func() uint64 {
		v = v*6364136223846793005 + 1442695040888963407
		x := v
		x ^= x >> 32
		x *= 0xd6e8feb86659fd93
		return x ^ x>>32
	}
}

// mixed tells bytes that hang on a start alone.
func mixed(start uint64, n int) []byte {
	next := mixer(start)
	b := make([]byte, n)
	for i := range b {
		b[i] = byte(next())
	}
	return b
}

// whole tells an index's bytes, and as many behind them as the chunks are.
func whole(h index.Head) []byte {
	return join(laid(h), mixed(uint64(len(h.List)), behind(h)))
}

func bothKinds() []int { return []int{api.Xor, api.Ints} }

// noKinds tells numbers that are no kind; some of them would be one, if bits of them were lost.
func noKinds() []int {
	list := []int{0, 3, 4, 5, 49, 255, 256, -1, -2, -3, 257, 258, -255, -254, 1<<16 + 1, 1<<16 + 2, 1<<32 + 1, 1<<32 + 2}
	return append(list, math.MinInt, math.MinInt+1, math.MinInt+2, math.MaxInt, math.MaxInt-1, math.MaxInt32, math.MinInt32)
}

// noCounts tells numbers that Count may not be.
func noCounts() []int {
	list := []int{0, -1, -2, -65534, -65535, -65536, 65536, 65537, 65538, 2*65536 + 1, 1<<24 + 1, 1<<31 + 1, 1 << 32, 1<<32 + 1, 1 - 1<<32}
	return append(list, math.MinInt, math.MinInt+1, math.MaxInt, math.MaxInt-1, math.MaxInt32, math.MinInt32, math.MinInt32+1)
}

// noLens tells numbers that Len may not be.
func noLens() []int {
	list := []int{3, 2, 1, 0, -1, -4, -5, 1 << 31, 1<<31 + 1, 1<<31 + 4, 1 << 32, 1<<32 + 4, 1<<32 + 9, 1<<40 + 4, 4 - 1<<32}
	return append(list, math.MinInt, math.MinInt+4, math.MaxInt, math.MaxInt-1, math.MinInt32, math.MinInt32+4)
}

// form is an index, and its bytes written out.
type form struct {
	h index.Head
	b []byte
}

// written tells indices written out: the sum stands in the last line of each.
func written() []form {
	return []form{
		{head(1), []byte{71, 84, 83, 49, 1, 0, 139, 6, 236, 214}},
		{head(2), []byte{71, 84, 83, 49, 2, 0, 160, 43, 191, 21}},
		{head(1, entry(0, 0, 1, 4)), []byte{71, 84, 83, 49, 1, 1,
			0, 0, 0, 0, 0, 0, 0, 0, 0, 1, 4,
			89, 43, 39, 218}},
		{head(2, entry(0, 0, 1, 4)), []byte{71, 84, 83, 49, 2, 1,
			0, 0, 0, 0, 0, 0, 0, 0, 0, 1, 4,
			228, 225, 75, 20}},
		{head(2, entry(-1, -1, 127, 127)), []byte{71, 84, 83, 49, 2, 1,
			255, 255, 255, 255, 255, 255, 255, 255, 0, 127, 127,
			100, 97, 217, 74}},
		{head(1, entry(-2, 125, 128, 128)), []byte{71, 84, 83, 49, 1, 1,
			255, 255, 255, 255, 255, 255, 255, 254, 127, 128, 1, 128, 1,
			217, 13, 158, 213}},
		{head(2, entry(least, greatest, 65535, mostLen)), []byte{71, 84, 83, 49, 2, 1,
			128, 0, 0, 0, 0, 0, 0, 0, 255, 255, 255, 255, 255, 255, 255, 255, 255, 1, 255, 255, 3, 255, 255, 255, 255, 7,
			251, 78, 178, 171}},
		{head(1, entry(least, least, 1, 4)), []byte{71, 84, 83, 49, 1, 1,
			128, 0, 0, 0, 0, 0, 0, 0, 0, 1, 4,
			46, 202, 18, 69}},
		{head(1, entry(greatest, greatest, 1, 4)), []byte{71, 84, 83, 49, 1, 1,
			127, 255, 255, 255, 255, 255, 255, 255, 0, 1, 4,
			216, 33, 124, 215}},
		{head(1, entry(0x0102030405060708, 0x0102030405060788, 16383, 16383)), []byte{71, 84, 83, 49, 1, 1,
			1, 2, 3, 4, 5, 6, 7, 8, 128, 1, 255, 127, 255, 127,
			220, 207, 25, 187}},
		{head(2, entry(1, 300, 2, 5), entry(301, 301, 300, 4)), []byte{71, 84, 83, 49, 2, 2,
			0, 0, 0, 0, 0, 0, 0, 1, 171, 2, 2, 5,
			0, 0, 0, 0, 0, 0, 1, 45, 0, 172, 2, 4,
			162, 127, 32, 43}},
		{head(1, entry(least, -1, 1, 20), entry(0, 0, 65535, 16384), entry(1, greatest, 2, 300)), []byte{71, 84, 83, 49, 1, 3,
			128, 0, 0, 0, 0, 0, 0, 0, 255, 255, 255, 255, 255, 255, 255, 255, 127, 1, 20,
			0, 0, 0, 0, 0, 0, 0, 0, 0, 255, 255, 3, 128, 128, 1,
			0, 0, 0, 0, 0, 0, 0, 1, 254, 255, 255, 255, 255, 255, 255, 255, 127, 2, 172, 2,
			205, 87, 158, 227}},
		{head(2, entry(least, least, 1, 4), entry(least+1, -130, 2, 5), entry(-129, -1, 3, 6), entry(0, 0, 4, 7), entry(5, 132, 5, 8), entry(133, greatest-1, 6, 9), entry(greatest, greatest, 7, 10)), []byte{71, 84, 83, 49, 2, 7,
			128, 0, 0, 0, 0, 0, 0, 0, 0, 1, 4,
			128, 0, 0, 0, 0, 0, 0, 1, 253, 254, 255, 255, 255, 255, 255, 255, 127, 2, 5,
			255, 255, 255, 255, 255, 255, 255, 127, 128, 1, 3, 6,
			0, 0, 0, 0, 0, 0, 0, 0, 0, 4, 7,
			0, 0, 0, 0, 0, 0, 0, 5, 127, 5, 8,
			0, 0, 0, 0, 0, 0, 0, 133, 249, 254, 255, 255, 255, 255, 255, 255, 127, 6, 9,
			127, 255, 255, 255, 255, 255, 255, 255, 0, 7, 10,
			107, 233, 147, 139}},
	}
}

// walk tells an index of n chunks that may be: steps of all sizes, some of them just 1.
func walk(start uint64, n int) index.Head {
	next := mixer(start)
	room := all / uint64(2*n+1)
	at := uint64(1)<<63 + next()%9%room
	list := make([]index.Entry, n)
	for i := range list {
		long := next() >> (next() % 64) % room
		list[i] = entry(int64(at), int64(at+long), 1+int(next()>>(next()%16)%65535), 4+int(next()>>(next()%64)%200))
		at += long + 1
		if next()%3 > 0 {
			at += next() >> (next() % 64) % room
		}
	}
	return head(1+int(next()%2), list...)
}

// some tells indices that may be, those written out among them, whose chunks are few bytes each.
func some() []index.Head {
	var list []index.Head
	for _, f := range written() {
		if behind(f.h) < 1<<20 {
			list = append(list, f.h)
		}
	}
	for start := range uint64(60) {
		list = append(list, walk(start, int(start%20)))
	}
	for i, n := range []int{100, 126, 127, 128, 129, 300, 301, 700} {
		list = append(list, walk(uint64(100+i), n))
	}
	return list
}

// short tells a head as far as a test's output needs it.
func short(h index.Head) string {
	return fmt.Sprintf("{%d, %d chunks from %v}", h.Kind, len(h.List), h.List[:min(4, len(h.List))])
}

func same(x, y index.Head) bool { return x.Kind == y.Kind && slices.Equal(x.List, y.List) }

// holdPut fails the test, if Put tells anything but these bytes and this error, the value itself.
func holdPut(t *testing.T, h index.Head, want []byte, wantErr error) {
	t.Helper()
	b, err := index.Put(h)
	if err != wantErr || !bytes.Equal(b, want) {
		t.Fatalf("Put(%s): %d bytes %v, %v; want %d bytes %v, %v", short(h), len(b), b[:min(80, len(b))], err, len(want), want[:min(80, len(want))], wantErr)
	}
}

// holdGet fails the test, if Get tells anything but this head, this number and this error, the value itself.
func holdGet(t *testing.T, b []byte, want index.Head, n int, wantErr error) {
	t.Helper()
	h, size, err := index.Get(b)
	if err != wantErr || size != n || !same(h, want) {
		t.Fatalf("Get(%d bytes %v): %s, %d, %v; want %s, %d, %v", len(b), b[:min(80, len(b))], short(h), size, err, short(want), n, wantErr)
	}
}

// holdErr fails the test, if Get tells anything but this error, and nothing beside it.
func holdErr(t *testing.T, b []byte, want error) {
	t.Helper()
	holdGet(t, b, index.Head{}, 0, want)
}

// putTold tells what Put must answer, by the words of P14.1.
func putTold(h index.Head) ([]byte, error) {
	reasons := 0
	if h.Kind < 1 || h.Kind > 2 {
		reasons++
	}
	if len(h.List) >= 1<<16 {
		reasons++
	}
	ahead := new(big.Int).Lsh(big.NewInt(-1), 63)
	ahead.Sub(ahead, big.NewInt(1))
	for _, e := range h.List {
		if !toldMayBe(e, ahead) {
			reasons++
		}
		ahead = big.NewInt(e.Max)
	}
	if reasons > 0 {
		return nil, api.ErrArg
	}
	return laid(h), nil
}

// toldMayBe tells whether a chunk may be behind one whose Max is ahead.
func toldMayBe(e index.Entry, ahead *big.Int) bool {
	if e.Count < 1 || e.Count >= 1<<16 || e.Len < 4 || e.Len >= 1<<31 {
		return false
	}
	return e.Min <= e.Max && big.NewInt(e.Min).Cmp(ahead) > 0
}

// feed is bytes that are gone over from the front.
type feed struct {
	rest []byte
}

// take goes over n bytes; false, if there are fewer.
func (f *feed) take(n int) ([]byte, bool) {
	if len(f.rest) < n {
		return nil, false
	}
	b := f.rest[:n]
	f.rest = f.rest[n:]
	return b, true
}

// num goes over a number of as many bytes as it needs, by the words of P3.1.
func (f *feed) num() (*big.Int, error) {
	end := slices.IndexFunc(f.rest, func(c byte) bool { return c < 128 })
	if end < 0 && len(f.rest) < 10 {
		return nil, api.ErrShort
	}
	if end < 0 || end >= 10 || end == 9 && f.rest[9] > 1 || end > 0 && f.rest[end] == 0 {
		return nil, api.ErrForm
	}
	b, _ := f.take(end + 1)
	v := new(big.Int)
	for _, c := range slices.Backward(b) {
		v.Lsh(v, 7).Add(v, big.NewInt(int64(c%128)))
	}
	return v, nil
}

// rough is a chunk, as its bytes tell it.
type rough struct {
	first, last, count, size *big.Int
}

// chunk goes over a chunk.
func (f *feed) chunk() (rough, error) {
	b, ok := f.take(8)
	if !ok {
		return rough{}, api.ErrShort
	}
	var v [3]*big.Int
	for i := range v {
		var err error
		if v[i], err = f.num(); err != nil {
			return rough{}, err
		}
	}
	first := big.NewInt(int64(binary.BigEndian.Uint64(b)))
	return rough{first, new(big.Int).Add(first, v[0]), v[1], v[2]}, nil
}

// chunks goes over how many chunks there are, and over them.
func (f *feed) chunks() ([]rough, error) {
	n, err := f.num()
	if err != nil {
		return nil, err
	}
	if n.Cmp(big.NewInt(65535)) > 0 {
		return nil, api.ErrLarge
	}
	var list []rough
	for range n.Int64() {
		r, err := f.chunk()
		if err != nil {
			return nil, err
		}
		list = append(list, r)
	}
	return list, nil
}

// within tells whether a number is from low to high.
func within(v *big.Int, low, high int64) bool {
	return v.Cmp(big.NewInt(low)) >= 0 && v.Cmp(big.NewInt(high)) <= 0
}

// entries tells the chunks, if they may be, and are as many bytes together as there are.
func entries(list []rough, there int) ([]index.Entry, bool) {
	var told []index.Entry
	sum := new(big.Int)
	for i, r := range list {
		if !within(r.last, least, greatest) || !within(r.count, 1, 65535) || !within(r.size, 4, mostLen) {
			return nil, false
		}
		if i > 0 && r.first.Cmp(list[i-1].last) <= 0 {
			return nil, false
		}
		sum.Add(sum, r.size)
		told = append(told, entry(r.first.Int64(), r.last.Int64(), int(r.count.Int64()), int(r.size.Int64())))
	}
	return told, sum.Cmp(big.NewInt(int64(there))) == 0
}

// told tells what Get must answer, by the words of P14.1.
func told(b []byte) (index.Head, int, error) {
	f := &feed{b}
	if magic, ok := f.take(4); !ok || string(magic) != "GTS1" {
		return index.Head{}, 0, api.ErrMagic
	}
	kind, ok := f.take(1)
	if !ok {
		return index.Head{}, 0, api.ErrShort
	}
	if kind[0] != 1 && kind[0] != 2 {
		return index.Head{}, 0, api.ErrKind
	}
	list, err := f.chunks()
	if err != nil {
		return index.Head{}, 0, err
	}
	ahead := b[:len(b)-len(f.rest)]
	sum, ok := f.take(4)
	if !ok {
		return index.Head{}, 0, api.ErrShort
	}
	if !bytes.Equal(join(ahead, sum), summed(ahead)) {
		return index.Head{}, 0, api.ErrSum
	}
	chunks, ok := entries(list, len(f.rest))
	if !ok {
		return index.Head{}, 0, api.ErrIndex
	}
	return head(int(kind[0]), chunks...), len(ahead) + 4, nil
}

// holdTold fails the test, if Get answers otherwise than it must; and it tells the error.
func holdTold(t *testing.T, b []byte) error {
	t.Helper()
	h, n, err := told(b)
	holdGet(t, b, h, n, err)
	return err
}

func TestExamples(t *testing.T) {
	b, err := index.Put(head(1))
	if len(b) != 10 || err != nil {
		t.Errorf("%v, %v", b, err)
	}
	holdGet(t, b, head(1), 10, nil)
}

func TestWrittenOut(t *testing.T) {
	for _, f := range written() {
		holdPut(t, f.h, f.b, nil)
		if !bytes.Equal(laid(f.h), f.b) {
			t.Errorf("the test's own bytes of %s are %v", short(f.h), laid(f.h))
		}
		if n := behind(f.h); n < 1<<20 {
			holdGet(t, join(f.b, zeros(n)), f.h, len(f.b), nil)
			holdGet(t, join(f.b, ones(n)), f.h, len(f.b), nil)
		}
	}
}

// No chunks may be told by a list that is nil, or empty, with room behind it.
func TestPutOfNoChunks(t *testing.T) {
	for _, kind := range bothKinds() {
		want := laid(head(kind))
		for _, list := range [][]index.Entry{nil, {}, make([]index.Entry, 0, 9), rising(2)[:0]} {
			holdPut(t, index.Head{Kind: kind, List: list}, want, nil)
		}
		holdGet(t, want, head(kind), 10, nil)
	}
}

// spanForm is a chunk's times, and the bytes of Max less Min.
type spanForm struct {
	first, last int64
	b           []byte
}

func spanForms() []spanForm {
	return []spanForm{
		{0, 0, []byte{0}}, {1, 1, []byte{0}}, {-1, -1, []byte{0}}, {least, least, []byte{0}}, {greatest, greatest, []byte{0}},
		{0, 1, []byte{1}}, {-1, 0, []byte{1}}, {least, least + 1, []byte{1}}, {greatest - 1, greatest, []byte{1}},
		{0, 127, []byte{127}}, {-64, 63, []byte{127}}, {-64, 64, []byte{128, 1}}, {-300, -1, []byte{171, 2}}, {7, 16391, []byte{128, 128, 1}},
		{-1 << 31, 1 << 31, []byte{128, 128, 128, 128, 16}}, {-1 << 55, 0, []byte{128, 128, 128, 128, 128, 128, 128, 64}},
		{0, greatest, join(ones(8), []byte{127})}, {least, -1, join(ones(8), []byte{127})}, {-5, greatest - 5, join(ones(8), []byte{127})},
		{-1, greatest, join(bytes.Repeat([]byte{128}, 9), []byte{1})}, {least, 0, join(bytes.Repeat([]byte{128}, 9), []byte{1})},
		{least + 1, greatest, join([]byte{254}, ones(8), []byte{1})}, {least, greatest - 1, join([]byte{254}, ones(8), []byte{1})},
		{least, greatest, join(ones(9), []byte{1})},
	}
}

// intForm is a number, and its bytes.
type intForm struct {
	v int
	b []byte
}

func countForms() []intForm {
	return []intForm{
		{1, []byte{1}}, {2, []byte{2}}, {127, []byte{127}}, {128, []byte{128, 1}}, {255, []byte{255, 1}}, {256, []byte{128, 2}},
		{16383, []byte{255, 127}}, {16384, []byte{128, 128, 1}}, {65534, []byte{254, 255, 3}}, {65535, []byte{255, 255, 3}},
	}
}

func lenForms() []intForm {
	return []intForm{
		{4, []byte{4}}, {5, []byte{5}}, {127, []byte{127}}, {128, []byte{128, 1}}, {16383, []byte{255, 127}}, {16384, []byte{128, 128, 1}},
		{65535, []byte{255, 255, 3}}, {65536, []byte{128, 128, 4}}, {1<<21 - 1, []byte{255, 255, 127}}, {1 << 21, []byte{128, 128, 128, 1}},
		{1 << 28, []byte{128, 128, 128, 128, 1}}, {1<<31 - 2, []byte{254, 255, 255, 255, 7}}, {1<<31 - 1, []byte{255, 255, 255, 255, 7}},
	}
}

// whenBytes tells a time's 8 bytes, byte by byte, by numbers that know no end.
func whenBytes(at int64) []byte {
	v := big.NewInt(at)
	if at < 0 {
		v.Add(v, new(big.Int).Lsh(big.NewInt(1), 64))
	}
	return v.FillBytes(make([]byte, 8))
}

// Each number of a chunk beside each other one.
func TestPutOfEachNumber(t *testing.T) {
	for _, s := range spanForms() {
		for _, c := range countForms() {
			for _, l := range lenForms() {
				for _, kind := range bothKinds() {
					ahead := join([]byte{71, 84, 83, 49, byte(kind), 1}, whenBytes(s.first), s.b, c.b, l.b)
					holdPut(t, head(kind, entry(s.first, s.last, c.v, l.v)), summed(ahead), nil)
				}
			}
		}
	}
}

// As many bytes behind as Len tells; those of the greatest ones are never touched.
func TestGetOfEachNumber(t *testing.T) {
	for _, l := range lenForms() {
		if l.v > 1<<21 {
			continue
		}
		rest := zeros(l.v)
		for _, s := range spanForms() {
			for _, c := range countForms() {
				b := summed([]byte{71, 84, 83, 49, 2, 1}, whenBytes(s.first), s.b, c.b, l.b)
				e := entry(s.first, s.last, c.v, l.v)
				if l.v < 1<<14 || c.v == 1 && s.first == least {
					holdGet(t, join(b, rest), head(2, e), len(b), nil)
					holdErr(t, join(b, rest[1:]), api.ErrIndex)
				}
				holdErr(t, b, api.ErrIndex)
			}
		}
	}
	large := zeros(1<<28 + 100)
	h := head(1, entry(-7, 7, 9, 1<<28))
	n := copy(large, laid(h))
	holdGet(t, large[:n+1<<28], h, n, nil)
	holdErr(t, large[:n+1<<28-1], api.ErrIndex)
	holdErr(t, large[:n+1<<28+1], api.ErrIndex)
}

// edgeTimes tells times that are near an end, or near 0, or have another number in each byte.
func edgeTimes() []int64 {
	list := []int64{least, least + 1, least + 255, least + 256, greatest, greatest - 1, greatest - 255, 0, 1, -1, 2, -2, 127, 128, -127, -128, -129, 255, 256, -255, -256, -257}
	list = append(list, 0x0102030405060708, -0x0102030405060708, 0x7fedcba987654321, -0x7fedcba987654321)
	for i := range 63 {
		list = append(list, 1<<i, -1<<i, 1<<i-1)
	}
	return list
}

func TestTimesAreEightBytes(t *testing.T) {
	for _, at := range edgeTimes() {
		b := summed([]byte{71, 84, 83, 49, 1, 1}, whenBytes(at), []byte{0, 1, 4})
		holdPut(t, head(1, plain(at)), b, nil)
		holdGet(t, join(b, zeros(4)), head(1, plain(at)), len(b), nil)
	}
}

func TestPutOfManyChunks(t *testing.T) {
	for i, n := range []int{0, 1, 2, 3, 4, 5, 20, 126, 127, 128, 129, 255, 256, 257, 300, 500, 999, 16383, 16384, 40000, 65534, 65535} {
		h := walk(uint64(i), n)
		holdPut(t, h, laid(h), nil)
		b := whole(h)
		holdGet(t, b, h, len(laid(h)), nil)
		if n > 0 {
			holdErr(t, b[:len(b)-1], api.ErrIndex)
		}
		holdErr(t, append(b, 0), api.ErrIndex)
	}
}

// How many chunks there are stands in as few bytes as there can be.
func TestHowManyChunks(t *testing.T) {
	for _, c := range []intForm{{0, []byte{0}}, {1, []byte{1}}, {127, []byte{127}}, {128, []byte{128, 1}}, {300, []byte{172, 2}}, {16383, []byte{255, 127}}, {16384, []byte{128, 128, 1}}, {65535, []byte{255, 255, 3}}} {
		list := make([]index.Entry, c.v)
		var rest []byte
		for i := range list {
			list[i] = plain(int64(i))
			rest = append(rest, 0, 0, 0, 0, byte(i>>24), byte(i>>16), byte(i>>8), byte(i), 0, 1, 4)
		}
		b := summed([]byte{71, 84, 83, 49, 2}, c.b, rest)
		holdPut(t, head(2, list...), b, nil)
		holdGet(t, join(b, zeros(4*c.v)), head(2, list...), len(b), nil)
	}
}

// rising tells n chunks that may be.
func rising(n int) []index.Entry {
	list := make([]index.Entry, n)
	for i := range list {
		at := int64(10*i) - 77
		list[i] = entry(at, at+6, i%65535+1, i%300+4)
	}
	return list
}

func TestPutOfNoKind(t *testing.T) {
	for _, kind := range noKinds() {
		for _, n := range []int{0, 1, 2, 300} {
			holdPut(t, head(kind, rising(n)...), nil, api.ErrArg)
		}
	}
}

func TestPutOfTooManyChunks(t *testing.T) {
	list := rising(2*65536 + 3)
	for _, kind := range bothKinds() {
		holdPut(t, head(kind, list[:65535]...), laid(head(kind, list[:65535]...)), nil)
		for _, n := range []int{65536, 65537, 65538, 70000, 2 * 65536, 2*65536 + 1, 2*65536 + 3} {
			holdPut(t, head(kind, list[:n]...), nil, api.ErrArg)
			holdPut(t, head(kind, make([]index.Entry, n)...), nil, api.ErrArg)
		}
	}
}

// places tells how many chunks there are, and which of them is spoilt: the first, a middle and the last one.
func places() [][2]int {
	return [][2]int{{1, 0}, {2, 0}, {2, 1}, {3, 0}, {3, 1}, {3, 2}, {300, 0}, {300, 1}, {300, 128}, {300, 150}, {300, 256}, {300, 298}, {300, 299}}
}

// holdSpoilt fails the test, if Put takes a list, one chunk of which was changed.
func holdSpoilt(t *testing.T, spoil func(list []index.Entry, i int)) {
	t.Helper()
	for _, p := range places() {
		for _, kind := range bothKinds() {
			list := rising(p[0])
			holdPut(t, head(kind, list...), laid(head(kind, list...)), nil)
			spoil(list, p[1])
			holdPut(t, head(kind, list...), nil, api.ErrArg)
		}
	}
}

func TestPutOfNoCount(t *testing.T) {
	for _, v := range noCounts() {
		holdSpoilt(t, func(list []index.Entry, i int) { list[i].Count = v })
	}
}

func TestPutOfNoLen(t *testing.T) {
	for _, v := range noLens() {
		holdSpoilt(t, func(list []index.Entry, i int) { list[i].Len = v })
	}
}

func TestPutOfMaxBelowMin(t *testing.T) {
	for _, less := range []int64{1, 2, 3, 255, 256, 1 << 31, 1 << 32, 1 << 62} {
		holdSpoilt(t, func(list []index.Entry, i int) { list[i].Max = list[i].Min - less })
	}
	holdSpoilt(t, func(list []index.Entry, i int) { list[i].Max = least })
	for _, p := range [][2]int64{{0, -1}, {1, 0}, {1, -1}, {-1, -2}, {greatest, greatest - 1}, {greatest, least}, {greatest, -1}, {greatest, 0}, {0, least}, {-1, least}, {least + 1, least}, {1 << 32, 1<<32 - 1}} {
		holdPut(t, head(1, entry(p[0], p[1], 1, 4)), nil, api.ErrArg)
		holdPut(t, head(1, entry(p[1], p[0], 1, 4)), laid(head(1, entry(p[1], p[0], 1, 4))), nil)
	}
}

// Min may stand right above Max of the one ahead of it, but not there, and not below.
func TestPutOfMinNotAboveMax(t *testing.T) {
	for _, less := range []int64{0, 1, 2, 6, 7, 11, 255, 256, 1 << 31, 1 << 32, 1 << 62} {
		for _, p := range places() {
			list, i := rising(p[0]), p[1]
			if i == 0 {
				continue
			}
			list[i].Min = list[i-1].Max + 1
			holdPut(t, head(2, list...), laid(head(2, list...)), nil)
			list[i].Min = list[i-1].Max - less
			holdPut(t, head(2, list...), nil, api.ErrArg)
			list[i].Min = least
			holdPut(t, head(2, list...), nil, api.ErrArg)
		}
	}
	for _, pair := range [][2]index.Entry{
		{plain(0), plain(0)}, {plain(5), plain(4)}, {plain(least), plain(least)}, {plain(greatest), plain(greatest)}, {plain(greatest), plain(least)},
		{entry(least, greatest, 1, 4), plain(least)}, {entry(least, greatest, 1, 4), plain(greatest)}, {entry(-5, 5, 1, 4), entry(-4, 6, 1, 4)},
		{entry(-5, 5, 1, 4), entry(5, 6, 1, 4)}, {entry(-5, 5, 1, 4), entry(-10, -6, 1, 4)}, {plain(0), plain(-1)}, {plain(1), plain(-1)}, {plain(1 << 32), plain(1)},
	} {
		holdPut(t, head(1, pair[0], pair[1]), nil, api.ErrArg)
	}
}

// Of as many chunks as there may be, each may be the one that may not.
func TestPutOfMostChunksSpoilt(t *testing.T) {
	list := rising(65535)
	for _, i := range []int{0, 1, 32767, 32768, 65533, 65534} {
		good := list[i]
		for _, bad := range []index.Entry{entry(good.Min, good.Max, 0, 4), entry(good.Min, good.Max, 65536, 4), entry(good.Min, good.Max, 1, 3), entry(good.Min, good.Max, 1, 1<<31), entry(good.Min, good.Min-1, 1, 4)} {
			list[i] = bad
			holdPut(t, head(1, list...), nil, api.ErrArg)
		}
		list[i] = good
	}
	holdPut(t, head(1, list...), laid(head(1, list...)), nil)
}

// Any numbers in a head, those that may be beside those that may not.
func TestPutOfAnyHead(t *testing.T) {
	times := []int64{least, least + 1, -129, -1, 0, 1, 300, 1 << 32, greatest - 1, greatest}
	taken := 0
	for _, kind := range []int{0, 1, 2, 3, -1, math.MinInt, math.MaxInt} {
		for _, first := range times {
			for _, last := range times {
				for _, count := range []int{math.MinInt, -1, 0, 1, 65535, 65536, math.MaxInt} {
					for _, size := range []int{math.MinInt, -4, 0, 3, 4, 1<<31 - 1, 1 << 31, 1<<32 + 4, math.MaxInt} {
						h := head(kind, entry(first, last, count, size))
						want, err := putTold(h)
						holdPut(t, h, want, err)
						if err == nil {
							taken++
						}
					}
				}
			}
		}
	}
	if taken != 2*55*2*2 {
		t.Errorf("%d were taken", taken)
	}
}

func TestPutOfAnyTimes(t *testing.T) {
	times := []int64{least, least + 1, -2, -1, 0, 1, 2, greatest - 1, greatest}
	taken := 0
	for _, a := range times {
		for _, b := range times {
			for _, c := range times {
				for _, d := range times {
					h := head(2, entry(a, b, 1, 4), entry(c, d, 1, 4))
					want, err := putTold(h)
					holdPut(t, h, want, err)
					if err == nil {
						taken++
					}
				}
			}
		}
	}
	if taken < 100 {
		t.Errorf("only %d were taken", taken)
	}
}

// tails tells what may stand where nothing is asked for any more.
func tails() [][]byte {
	h := head(1, entry(5, 9, 2, 6), entry(10, 30, 3, 7))
	return [][]byte{nil, {0}, {1}, {2}, {3}, {128}, {255}, {128, 0}, {1, 0}, {128, 128, 4}, {1, 128, 128, 4}, ones(9), ones(10), ones(40), zeros(8), zeros(40), laid(h), laid(h)[4:], laid(h)[5:], whole(h), whole(h)[4:], whole(h)[5:], mixed(3, 50)}
}

// Bytes that begin otherwise are no block, whatever else is wrong with them.
func TestNoMagic(t *testing.T) {
	for _, tail := range tails() {
		for _, begin := range []string{"G", "GT", "GTS", "gts1", "GTS0", "GTS2", "GTS\x00", "XTS1", "GXS1", "GTX1", "TGS1", "1STG", "\x00GTS1", "GGTS1", "GT S1", "GTS\xb1", "\xc7TS1"} {
			b := join([]byte(begin), tail)
			if !bytes.HasPrefix(b, []byte("GTS1")) {
				holdErr(t, b, api.ErrMagic)
			}
		}
		if len(tail) == 0 || tail[0] != 71 {
			holdErr(t, tail, api.ErrMagic)
		}
		for i := range 4 {
			for c := range 256 {
				b := join([]byte("GTS1"), tail)
				if b[i] != byte(c) {
					b[i] = byte(c)
					holdErr(t, b, api.ErrMagic)
				}
			}
		}
	}
	holdErr(t, nil, api.ErrMagic)
	holdErr(t, []byte{}, api.ErrMagic)
	// The room behind a slice's end isn't handed in.
	for n := range 4 {
		holdErr(t, laid(head(1))[:n], api.ErrMagic)
	}
}

func TestNothingBehindMagic(t *testing.T) {
	holdErr(t, []byte("GTS1"), api.ErrShort)
	holdErr(t, laid(head(1))[:4], api.ErrShort)
	holdErr(t, join([]byte("GTS1"), []byte{3})[:4], api.ErrShort)
}

func TestGetOfNoKind(t *testing.T) {
	for kind := range 256 {
		if kind == api.Xor || kind == api.Ints {
			continue
		}
		for _, tail := range tails() {
			holdErr(t, join([]byte("GTS1"), []byte{byte(kind)}, tail), api.ErrKind)
		}
		// With the right sum behind it.
		holdErr(t, laid(index.Head{Kind: kind}), api.ErrKind)
		holdErr(t, join(laid(head(kind, plain(3))), zeros(4)), api.ErrKind)
	}
}

// badNums tells bytes of no number, and layer 3's error of them; those of ErrShort must have nothing behind them.
func badNums() []struct {
	b    []byte
	want error
} {
	high := bytes.Repeat([]byte{128}, 9)
	return []struct {
		b    []byte
		want error
	}{
		{nil, api.ErrShort}, {[]byte{128}, api.ErrShort}, {[]byte{255}, api.ErrShort}, {[]byte{129, 128}, api.ErrShort}, {[]byte{255, 255, 132}, api.ErrShort}, {ones(5), api.ErrShort}, {ones(8), api.ErrShort}, {ones(9), api.ErrShort}, {high, api.ErrShort},
		{[]byte{128, 0}, api.ErrForm}, {[]byte{129, 0}, api.ErrForm}, {[]byte{132, 0}, api.ErrForm}, {[]byte{255, 0}, api.ErrForm}, {[]byte{128, 128, 0}, api.ErrForm}, {[]byte{129, 128, 128, 0}, api.ErrForm}, {[]byte{255, 255, 131, 0}, api.ErrForm},
		{join(ones(8), []byte{0}), api.ErrForm}, {join(ones(9), []byte{0}), api.ErrForm}, {join(ones(9), []byte{2}), api.ErrForm}, {join(ones(9), []byte{3}), api.ErrForm}, {join(ones(9), []byte{127}), api.ErrForm}, {join(ones(9), []byte{128}), api.ErrForm}, {ones(10), api.ErrForm}, {ones(11), api.ErrForm},
		{join(high, []byte{0}), api.ErrForm}, {join(high, []byte{2}), api.ErrForm}, {join(high, []byte{128}), api.ErrForm}, {join(high, []byte{128, 1}), api.ErrForm},
	}
}

// holdBadNum fails the test, if bytes of no number aren't told, at this place, as they should be, whatever is behind them.
func holdBadNum(t *testing.T, ahead []byte) {
	t.Helper()
	for _, bad := range badNums() {
		b := join(ahead, bad.b)
		holdErr(t, b, bad.want)
		// The room behind a slice's end isn't handed in.
		holdErr(t, join(b, []byte{1}, mixed(1, 50))[:len(b)], bad.want)
		if bad.want == api.ErrShort {
			continue
		}
		for _, tail := range tails() {
			holdErr(t, join(b, tail), api.ErrForm)
		}
		// With the right sum behind it.
		holdErr(t, summed(b), api.ErrForm)
		holdErr(t, join(summed(b), zeros(4)), api.ErrForm)
	}
}

func TestHowManyChunksIsNoNumber(t *testing.T) {
	for _, kind := range []byte{1, 2} {
		holdBadNum(t, []byte{71, 84, 83, 49, kind})
	}
}

func TestTooManyChunks(t *testing.T) {
	for _, n := range []uint64{65536, 65537, 65538, 65539, 70000, 2 * 65536, 2*65536 + 1, 1<<24 + 1, 1 << 31, 1<<31 + 1, 1 << 32, 1<<32 + 1, 1<<32 + 2, 1 << 40, 1<<62 + 1, 1<<63 - 1, 1 << 63, 1<<63 + 1, all - 1, all} {
		for _, kind := range []byte{1, 2} {
			b := front(kind, n)
			for _, tail := range tails() {
				holdErr(t, join(b, tail), api.ErrLarge)
			}
			// With the right sum behind it, as if there were none of them, or one, or two.
			holdErr(t, summed(b), api.ErrLarge)
			one := join(b, chunk(3, 0, 1, 4))
			holdErr(t, join(summed(one), zeros(4)), api.ErrLarge)
			holdErr(t, join(summed(one, chunk(5, 0, 1, 4)), zeros(8)), api.ErrLarge)
		}
	}
	// As many as there may be, of which there are none: that is something else.
	for _, n := range []uint64{65535, 65534, 1, 2} {
		holdErr(t, front(1, n), api.ErrShort)
	}
	holdErr(t, summed(front(1, 65535)), api.ErrShort)
}

// More than there may be, all there.
func TestTooManyChunksThere(t *testing.T) {
	h := head(1, rising(65535)...)
	holdGet(t, whole(h), h, len(laid(h)), nil)
	for _, n := range []int{65536, 65537, 70000} {
		holdErr(t, whole(head(1, rising(n)...)), api.ErrLarge)
	}
}

// aheads tells what may stand ahead of a chunk: others, which may be, or may not; and whose number promises more.
func aheads() [][]byte {
	return [][]byte{
		front(1, 1),
		front(2, 1),
		front(2, 3),
		front(1, 65535),
		join(front(1, 2), chunk(5, 3, 1, 4)),
		join(front(2, 2), chunk(5, 3, 0, 4)),
		join(front(2, 2), chunk(5, 3, 1, 3)),
		join(front(1, 2), chunk(greatest, 1, 1, 4)),
		join(front(1, 2), chunk(5, all, all, all)),
		join(front(1, 9), chunk(5, 3, 1, 4), chunk(5, 3, 1, 4)),
		join(front(1, 3), chunk(5, 3, 1, 4), chunk(300, 3000, 300, 400)),
	}
}

func TestMinIsNotWhole(t *testing.T) {
	for _, ahead := range aheads() {
		for n := range 8 {
			for _, c := range []byte{0, 1, 127, 128, 255} {
				b := join(ahead, bytes.Repeat([]byte{c}, n))
				holdErr(t, b, api.ErrShort)
				holdErr(t, join(b, []byte{c}, mixed(1, 50))[:len(b)], api.ErrShort)
			}
		}
		// 4 bytes behind the chunks ahead that are their sum aren't one, if there should be another chunk.
		holdErr(t, summed(ahead), api.ErrShort)
	}
}

// Each of the three numbers of a chunk may be none, in the first chunk and in a later one.
func TestNumbersOfAChunkAreNone(t *testing.T) {
	for _, ahead := range aheads() {
		for _, first := range []int64{9999, 0, greatest, least} {
			holdBadNum(t, join(ahead, when(first)))
			for _, long := range []uint64{0, 300, all} {
				holdBadNum(t, join(ahead, when(first), num(long)))
				for _, count := range []uint64{0, 1, 300, 65536, all} {
					holdBadNum(t, join(ahead, when(first), num(long), num(count)))
				}
			}
		}
	}
}

// What is wrong further ahead is told, not what is wrong behind it; where one chunk can't be read, none behind it matters.
func TestTheFirstOfTwoFaults(t *testing.T) {
	form := []byte{128, 0}
	for _, c := range []struct {
		b    []byte
		want error
	}{
		{join(front(1, 2), when(1), form, num(1), num(4), zeros(3)), api.ErrForm},
		{join(front(1, 2), when(1), num(0), form, num(4)), api.ErrForm},
		{join(front(1, 2), when(1), num(0), num(1), form), api.ErrForm},
		{join(front(1, 2), when(1), num(0), num(1), []byte{128}), api.ErrShort},
		{join(front(1, 2), chunk(1, 0, 0, 4), when(5), form), api.ErrForm},
		{join(front(1, 2), chunk(1, 0, 0, 4), when(5), num(0), form), api.ErrForm},
		{join(front(1, 2), chunk(1, 0, 0, 4), when(5), num(0), num(1), form), api.ErrForm},
		{join(front(1, 2), chunk(1, 0, 0, 4), when(5)[:7]), api.ErrShort},
		{join(front(1, 2), chunk(1, 0, 0, 4), when(0), num(0), num(1), ones(9)), api.ErrShort},
		{join(front(1, 2), chunk(1, 0, 1, 4), chunk(1, 0, 1, 4)), api.ErrShort},
		{join(front(1, 2), chunk(1, 0, 1, 4), chunk(1, 0, 1, 4), zeros(3)), api.ErrShort},
		{join(front(1, 2), chunk(1, 0, 1, 4), chunk(1, 0, 1, 4), zeros(4)), api.ErrSum},
		{join(front(1, 1), chunk(1, 0, 1, 4), zeros(3)), api.ErrShort},
		{join(front(1, 1), chunk(1, 0, 1, 4), zeros(4)), api.ErrSum},
		{join(front(1, 0), zeros(3)), api.ErrShort},
		{join(front(1, 0), zeros(4)), api.ErrSum},
		{join(front(1, 0), zeros(9)), api.ErrSum},
	} {
		holdErr(t, c.b, c.want)
		holdTold(t, c.b)
	}
}

// offIndices tells indices that may not be, each for one reason, or that don't fit what is behind them, their sums being right.
func offIndices() [][]byte {
	return [][]byte{
		join(summed(front(1, 1), chunk(1, 0, 0, 4)), zeros(4)),
		join(summed(front(1, 1), chunk(1, 0, 65536, 4)), zeros(4)),
		join(summed(front(1, 1), chunk(1, 0, 1, 3)), zeros(3)),
		join(summed(front(1, 1), chunk(1, 0, 1, 0))),
		join(summed(front(1, 1), chunk(1, 0, 1, 1<<31)), zeros(4)),
		join(summed(front(1, 1), chunk(greatest, 1, 1, 4)), zeros(4)),
		join(summed(front(1, 2), chunk(1, 0, 1, 4), chunk(1, 0, 1, 4)), zeros(8)),
		join(summed(front(1, 2), chunk(1, 1, 1, 4), chunk(1, 3, 1, 4)), zeros(8)),
		join(summed(front(1, 1), chunk(1, 0, 1, 4)), zeros(5)),
		join(summed(front(1, 1), chunk(1, 0, 1, 4)), zeros(3)),
		join(summed(front(1, 0)), zeros(1)),
	}
}

// An end ahead of the whole sum, and another sum, are told ahead of what may not be.
func TestSumAheadOfIndex(t *testing.T) {
	for _, b := range offIndices() {
		holdErr(t, b, api.ErrIndex)
		end := len(b)
		for end > 0 && !bytes.Equal(summed(b[:end-4]), b[:end]) {
			end--
		}
		for n := end - 4; n < end; n++ {
			holdErr(t, b[:n], api.ErrShort)
		}
		for i := end - 4; i < end; i++ {
			for bit := range 8 {
				turned := bytes.Clone(b)
				turned[i] ^= 1 << bit
				holdErr(t, turned, api.ErrSum)
				holdErr(t, turned[:end], api.ErrSum)
			}
		}
	}
}

// An end at every place of an index, and of what is behind it.
func TestEndsEverywhere(t *testing.T) {
	for _, h := range some() {
		b, size := whole(h), len(laid(h))
		for n := range b {
			want := error(api.ErrIndex)
			if n < 4 {
				want = api.ErrMagic
			} else if n < size {
				want = api.ErrShort
			}
			holdErr(t, b[:n], want)
			holdErr(t, bytes.Clone(b[:n]), want)
			if n > 2000 {
				break
			}
		}
	}
}

// A sum laid behind each end: it isn't one there, but part of what should stand there.
func TestEndsEverywhereWithASum(t *testing.T) {
	for _, h := range some()[:40] {
		b := laid(h)
		for n := range len(b) - 4 {
			cut := summed(b[:n])
			holdTold(t, cut)
			holdTold(t, join(cut, zeros(behind(h))))
		}
	}
}

func TestAnotherSum(t *testing.T) {
	for _, h := range some() {
		b, size := whole(h), len(laid(h))
		for i := size - 4; i < size; i++ {
			for c := 1; c < 256; c++ {
				b[i] ^= byte(c)
				if c&(c-1) == 0 || len(h.List) < 5 {
					holdErr(t, b, api.ErrSum)
				}
				b[i] ^= byte(c)
			}
		}
		sum := b[size-4 : size]
		for _, other := range [][]byte{{sum[3], sum[2], sum[1], sum[0]}, {^sum[0], ^sum[1], ^sum[2], ^sum[3]}, {sum[1], sum[2], sum[3], sum[0]}, zeros(4), ones(4)} {
			if !bytes.Equal(other, sum) {
				holdErr(t, join(b[:size-4], other, b[size:]), api.ErrSum)
			}
		}
	}
}

// The sum is the one of all bytes of the index ahead of it, and of none behind it.
func TestSumIsOfAllAhead(t *testing.T) {
	h := head(1, entry(5, 9, 2, 6), entry(10, 30, 3, 7))
	b, size := whole(h), len(laid(h))
	for from := range size - 4 {
		sum := binary.BigEndian.AppendUint32(nil, crc32.ChecksumIEEE(b[from:size-4]))
		if from > 0 {
			holdErr(t, join(b[:size-4], sum, b[size:]), api.ErrSum)
		}
	}
	for to := range size - 4 {
		sum := binary.BigEndian.AppendUint32(nil, crc32.ChecksumIEEE(b[:to]))
		holdErr(t, join(b[:size-4], sum, b[size:]), api.ErrSum)
	}
	for i := size; i < len(b); i++ {
		b[i] ^= 255
		holdGet(t, b, h, size, nil)
	}
}

// Each byte ahead of the sum turned, bit by bit: it is never taken.
func TestEachByteTurned(t *testing.T) {
	seen := map[error]int{}
	for _, h := range some() {
		b, size := whole(h), len(laid(h))
		if len(b) > 3000 {
			continue
		}
		for i := range size - 4 {
			for bit := range 8 {
				b[i] ^= 1 << bit
				err := holdTold(t, b)
				if err == nil {
					t.Fatalf("%s: byte %d, bit %d turned", short(h), i, bit)
				}
				seen[err]++
				b[i] ^= 1 << bit
			}
		}
	}
	for _, err := range []error{api.ErrMagic, api.ErrShort, api.ErrKind, api.ErrForm, api.ErrLarge, api.ErrSum} {
		if seen[err] == 0 {
			t.Errorf("never %v", err)
		}
	}
}

// Every other byte at each place of an index, with the old sum, and with the one laid anew.
func TestEachOtherByte(t *testing.T) {
	seen := map[error]int{}
	for _, h := range []index.Head{head(1), head(2), head(1, entry(-1, 0, 1, 4)), head(2, entry(1, 300, 2, 5), entry(301, 301, 300, 4)), head(1, entry(least, -1, 1, 20), entry(0, 0, 65535, 130), entry(1, greatest, 2, 4))} {
		b, size := whole(h), len(laid(h))
		for i := range size - 4 {
			for c := range 256 {
				other := bytes.Clone(b)
				other[i] = byte(c)
				seen[holdTold(t, other)]++
				seen[holdTold(t, join(summed(other[:size-4]), other[size:]))]++
			}
		}
	}
	for _, err := range []error{nil, api.ErrMagic, api.ErrShort, api.ErrKind, api.ErrForm, api.ErrLarge, api.ErrSum, api.ErrIndex} {
		if seen[err] < 20 {
			t.Errorf("%v only %d times", err, seen[err])
		}
	}
}

// holdOff fails the test, if chunks of these numbers are taken, with as many bytes behind as there may be, or others; the sum is right.
func holdOff(t *testing.T, chunks ...[]byte) {
	t.Helper()
	for _, kind := range []byte{1, 2} {
		b := summed(front(kind, uint64(len(chunks))), join(chunks...))
		for n := range 40 {
			holdErr(t, join(b, zeros(n)), api.ErrIndex)
		}
		holdTold(t, join(b, zeros(4*len(chunks))))
	}
}

// holdOffAnywhere fails the test, if a chunk of these numbers is taken as the first, the second or the last one; first is from 1000 to 2000.
func holdOffAnywhere(t *testing.T, first int64, long, count, size uint64) {
	t.Helper()
	bad := chunk(first, long, count, size)
	holdOff(t, bad)
	holdOff(t, bad, chunk(5000, 0, 1, 4))
	holdOff(t, chunk(0, 999, 1, 4), bad)
	holdOff(t, chunk(0, 999, 1, 4), bad, chunk(5000, 7, 1, 4))
	holdOff(t, chunk(0, 0, 1, 4), chunk(1, 0, 1, 4), bad)
}

// greatNums tells numbers beyond any limit; in fewer bits some of them would be small.
func greatNums() []uint64 {
	list := []uint64{1 << 31, 1<<31 + 1, 1<<31 + 4, 1<<32 - 1, 1 << 32, 1<<32 + 1, 1<<32 + 4, 1<<32 + 5, 1<<33 + 4, 1<<40 + 4, 1<<48 + 4, 1<<56 + 4, 1<<62 + 4}
	return append(list, 1<<63-1, 1<<63-4, 1<<63, 1<<63+1, 1<<63+4, 1<<63+1<<31, 1<<63+1<<31-1, 1<<64-1<<32, 1<<64-1<<32+4, 1<<64-1<<31, all-3, all-4, all-1, all)
}

func TestGetOfNoCount(t *testing.T) {
	for _, v := range append(greatNums(), 0, 65536, 65537, 65540, 2*65536, 2*65536+1, 1<<24+1, 1<<30) {
		for _, size := range []uint64{4, 5, 8, 20} {
			holdOffAnywhere(t, 1000, 7, v, size)
		}
	}
}

func TestGetOfNoLen(t *testing.T) {
	for _, v := range append(greatNums(), 0, 1, 2, 3) {
		holdOffAnywhere(t, 1000, 7, 1, v)
		holdOffAnywhere(t, 1000, 7, 65535, v)
	}
	// Two that go around to what is there: one of them is too great, the other one may be.
	for n := uint64(4); n < 30; n++ {
		for _, around := range []uint64{1 << 31, 1 << 32, 1 << 63} {
			holdOff(t, chunk(0, 0, 1, around), chunk(1, 0, 1, n))
			holdOff(t, chunk(0, 0, 1, n), chunk(1, 0, 1, around+n))
		}
		holdOff(t, chunk(0, 0, 1, n+4), chunk(1, 0, 1, all-n+1+4))
		holdOff(t, chunk(0, 0, 1, 1<<63+n), chunk(1, 0, 1, 1<<63+4))
		holdOff(t, chunk(0, 0, 1, n), chunk(1, 0, 1, 0))
		holdOff(t, chunk(0, 0, 1, 3), chunk(1, 0, 1, n))
	}
}

// Max is Min and the difference, without going around.
func TestMaxBeyondTheGreatest(t *testing.T) {
	for _, first := range []int64{greatest, greatest - 1, greatest - 2, greatest - 300, 1 << 62, 1 << 32, 1000, 300, 2, 1, 0, -1, -2, -300, -1 << 32, -1 << 62, least + 300, least + 2, least + 1} {
		room := new(big.Int).Sub(big.NewInt(greatest), big.NewInt(first)).Uint64()
		e := entry(first, greatest, 1, 4)
		b := summed(front(2, 1), chunk(first, room, 1, 4))
		holdGet(t, join(b, zeros(4)), head(2, e), len(b), nil)
		for _, more := range []uint64{1, 2, 3, 100, 1 << 31, 1 << 32, 1 << 62, 1<<63 - 1, 1 << 63, all - room, all - room - 1, (all - room) / 2} {
			if more > all-room || more == 0 {
				continue
			}
			holdOff(t, chunk(first, room+more, 1, 4))
			// A chunk above where it goes around to.
			for _, next := range []int64{int64(uint64(first) + room + more + 1), first + 1, greatest} {
				holdOff(t, chunk(first, room+more, 1, 4), chunk(next, 0, 1, 4))
			}
			if first > least+1 {
				holdOff(t, chunk(first-1, 0, 1, 4), chunk(first, room+more, 1, 4))
				holdOff(t, chunk(least, 0, 1, 4), chunk(first, room+more, 1, 4))
			}
		}
	}
	// From the least one no difference goes too far.
	for _, long := range []uint64{0, 1, 1<<63 - 1, 1 << 63, all - 1, all} {
		b := summed(front(1, 1), chunk(least, long, 1, 4))
		holdGet(t, join(b, zeros(4)), head(1, entry(least, int64(1<<63+long), 1, 4)), len(b), nil)
	}
}

// Differences that are great, but may be, and in fewer bits would be small.
func TestGreatDifferences(t *testing.T) {
	for _, first := range []int64{least, -1 << 62, -300, 0, 300} {
		for _, long := range []uint64{1 << 16, 1 << 31, 1<<32 - 1, 1 << 32, 1<<32 + 1, 1 << 40, 1 << 62} {
			e := entry(first, first+int64(long), 1, 4)
			b := summed(front(1, 1), chunk(first, long, 1, 4))
			holdGet(t, join(b, zeros(4)), head(1, e), len(b), nil)
			b = summed(front(1, 2), chunk(first, long, 1, 4), chunk(e.Max+1, 0, 1, 4))
			holdGet(t, join(b, zeros(8)), head(1, e, plain(e.Max+1)), len(b), nil)
			holdOff(t, chunk(first, long, 1, 4), chunk(e.Max, 0, 1, 4))
			holdOff(t, chunk(first, long, 1, 4), chunk(first+1, 0, 1, 4))
		}
	}
}

func TestGetOfMinNotAboveMax(t *testing.T) {
	good := [][]byte{chunk(-20, 9, 1, 4), chunk(-10, 9, 1, 4), chunk(0, 300, 1, 4), chunk(301, 0, 1, 4)}
	b := summed(front(1, 4), join(good...))
	holdGet(t, join(b, zeros(16)), head(1, entry(-20, -11, 1, 4), entry(-10, -1, 1, 4), entry(0, 300, 1, 4), plain(301)), len(b), nil)
	for _, c := range []struct {
		at    int
		first int64
	}{{1, -11}, {1, -12}, {1, -20}, {1, -21}, {1, least}, {2, -1}, {2, -2}, {2, -10}, {2, -11}, {2, -20}, {2, least}, {3, 300}, {3, 299}, {3, 1}, {3, 0}, {3, -1}, {3, least}} {
		list := slices.Clone(good)
		list[c.at] = chunk(c.first, 0, 1, 4)
		holdOff(t, list...)
	}
	holdOff(t, good[1], good[0])
	holdOff(t, good[0], good[0])
	holdOff(t, chunk(least, all, 1, 4), chunk(greatest, 0, 1, 4))
	holdOff(t, chunk(greatest, 0, 1, 4), chunk(least, 0, 1, 4))
	holdOff(t, chunk(0, 1<<63-1, 1, 4), chunk(least, 0, 1, 4))
}

// As many bytes behind as all Lens tell, no more and no fewer.
func TestLensTogether(t *testing.T) {
	for _, h := range some() {
		b, size, n := laid(h), len(laid(h)), behind(h)
		for _, there := range []int{0, 1, 3, 4, 5, n / 2, n - 4, n - 2, n - 1, n, n + 1, n + 2, n + 4, n + 256, 2 * n, 2*n + 1, n + 65536} {
			if there < 0 {
				continue
			}
			if there == n {
				holdGet(t, join(b, zeros(there)), h, size, nil)
			} else {
				holdErr(t, join(b, zeros(there)), api.ErrIndex)
			}
		}
	}
}

// All Lens together may be more than 32 bits tell: what is left of them in these is there, but isn't all.
func TestLensTogetherAreGreat(t *testing.T) {
	most := chunk(0, 0, 1, mostLen)
	for n := range 40 {
		for _, kind := range []byte{1, 2} {
			for _, list := range [][][]byte{
				{most},
				{most, chunk(1, 0, 1, uint64(n)+5)},
				{most, chunk(1, 0, 1, mostLen), chunk(2, 0, 1, uint64(n)+6)},
				{most, chunk(1, 0, 1, mostLen), chunk(2, 0, 1, mostLen), chunk(3, 0, 1, mostLen), chunk(4, 0, 1, uint64(n)+4+4)},
				{chunk(0, 0, 1, 1<<30), chunk(1, 0, 1, 1<<30), chunk(2, 0, 1, 1<<30), chunk(3, 0, 1, 1<<30), chunk(4, 0, 1, uint64(n)+4)},
				{chunk(0, 0, 1, uint64(n)+4), chunk(1, 0, 1, mostLen), chunk(2, 0, 1, mostLen), chunk(3, 0, 1, 6)},
			} {
				b := summed(front(kind, uint64(len(list))), join(list...))
				for _, there := range []int{n, n + 1, n + 2, n + 4, n + 8} {
					holdErr(t, join(b, zeros(there)), api.ErrIndex)
				}
			}
		}
	}
	list := rising(65535)
	for i := range list {
		list[i].Len = mostLen
	}
	b := laid(head(1, list...))
	holdPut(t, head(1, list...), b, nil)
	// 65535 times that, in 31 bits, are 2^31 - 65535; in 16 bits, 1.
	for _, there := range []int{0, 1, 65535, 1 << 16} {
		holdErr(t, join(b, zeros(there)), api.ErrIndex)
	}
}

// Any bytes, alone and behind a beginning that is right.
func TestAnyBytes(t *testing.T) {
	for first := range 256 {
		for second := range 256 {
			holdTold(t, []byte{byte(first), byte(second)})
			holdTold(t, []byte{71, 84, 83, 49, byte(first), byte(second)})
			holdTold(t, []byte{71, 84, 83, 49, 1, byte(first), byte(second), 9, 9})
			holdTold(t, summed([]byte{71, 84, 83, 49, 2, byte(first), byte(second)}))
		}
	}
	for start := range uint64(3000) {
		b := mixed(start, int(start%90))
		holdTold(t, b)
		for _, begin := range [][]byte{{71, 84, 83, 49}, front(1, start%5), front(2, start%5), front(2, 1), front(1, 65535), front(1, 65536)} {
			holdTold(t, join(begin, b))
			holdTold(t, join(summed(begin, b), zeros(int(start%40))))
		}
	}
}

// Any numbers of chunks, their sum being right, with as many bytes behind as they would be in all, as far as that is few.
func TestAnyNumbers(t *testing.T) {
	edge := []uint64{0, 1, 2, 3, 4, 5, 127, 128, 300, 65535, 65536, 1 << 31, 1<<31 - 1, 1 << 32, 1<<63 - 1, 1 << 63, 1<<64 - 1}
	seen := map[error]int{}
	for start := range uint64(20000) {
		next := mixer(start)
		pick := func(good uint64) uint64 {
			if next()%8 > 0 {
				return good
			}
			return edge[next()%uint64(len(edge))]
		}
		n := next() % 4
		b := front(byte(1+start%2), n)
		at, there := next()>>(next()%64), uint64(0)
		for range n {
			long, size := pick(next()>>(next()%64)), pick(4+next()%20)
			b = append(b, chunk(int64(at), long, pick(1+next()%65535), size)...)
			at += long + pick(1)
			there += size
		}
		seen[holdTold(t, join(summed(b), zeros(int(there%3000))))]++
	}
	if seen[nil] < 3000 || seen[api.ErrIndex] < 3000 {
		t.Errorf("%v", seen)
	}
}

// A byte more, or one fewer, at any place, with the old sum, and with one laid anew behind all that is the index's.
func TestMoreAndFewerBytes(t *testing.T) {
	for _, h := range some()[:30] {
		b, size := whole(h), len(laid(h))
		for i := range size {
			fewer := join(b[:i], b[i+1:])
			holdTold(t, fewer)
			if i < size-4 {
				holdTold(t, join(summed(fewer[:size-5]), b[size:]))
			}
			for _, c := range []byte{0, 1, 128, 255} {
				more := join(b[:i], []byte{c}, b[i:])
				holdTold(t, more)
				holdTold(t, join(summed(more[:size-3]), b[size:]))
			}
		}
	}
}

// The error is the api's own value: one that is only like it, or wraps it, is another one.
func TestErrorsAreTheCodesThemselves(t *testing.T) {
	for _, c := range []struct {
		b    []byte
		want api.Code
	}{
		{nil, api.ErrMagic},
		{[]byte("GTS1"), api.ErrShort},
		{[]byte("GTS1\x00"), api.ErrKind},
		{[]byte("GTS1\x01"), api.ErrShort},
		{[]byte("GTS1\x01\x80\x00"), api.ErrForm},
		{[]byte("GTS1\x01\x80\x80\x04"), api.ErrLarge},
		{[]byte("GTS1\x01\x01"), api.ErrShort},
		{join(front(1, 1), zeros(8), []byte{128}), api.ErrShort},
		{join(front(1, 1), zeros(8), []byte{128, 0}), api.ErrForm},
		{join(front(1, 0), zeros(3)), api.ErrShort},
		{join(front(1, 0), zeros(4)), api.ErrSum},
		{join(laid(head(1)), zeros(1)), api.ErrIndex},
	} {
		_, _, err := index.Get(c.b)
		if code, ok := err.(api.Code); !ok || code != c.want {
			t.Errorf("%v: %#v", c.b, err)
		}
	}
	_, err := index.Put(index.Head{})
	if code, ok := err.(api.Code); !ok || code != api.ErrArg {
		t.Errorf("%#v", err)
	}
}

// overwrite turns every bit of a slice's memory, that behind its end, too.
func overwrite(b []byte) {
	b = b[:cap(b)]
	for i := range b {
		b[i] = ^b[i]
	}
}

// overwriteList changes every number of a list's memory, that behind its end, too.
func overwriteList(list []index.Entry) {
	list = list[:cap(list)]
	for i, e := range list {
		list[i] = entry(^e.Min, ^e.Max, ^e.Count, ^e.Len)
	}
}

// heads tells heads that may be, and those that may not.
func heads() []index.Head {
	list := some()
	for _, bad := range []index.Entry{entry(0, 0, 0, 4), entry(0, 0, 1, 3), entry(0, -1, 1, 4), entry(0, 0, 65536, 4)} {
		list = append(list, head(1, bad), head(2, plain(-5), bad, plain(7)))
	}
	return append(list, head(0), head(3, plain(1)), head(1, plain(1), plain(1)), head(1, plain(2), plain(1)), head(2, make([]index.Entry, 65536)...))
}

func TestPutChangesNothing(t *testing.T) {
	for _, h := range heads() {
		memory := slices.Concat(h.List, rising(9))
		before := slices.Clone(memory)
		index.Put(index.Head{Kind: h.Kind, List: memory[:len(h.List)]})
		if !slices.Equal(memory, before) {
			t.Fatalf("Put(%s) changed it", short(h))
		}
	}
}

func TestGetChangesNothing(t *testing.T) {
	lists := append(tails(), offIndices()...)
	for _, h := range some() {
		lists = append(lists, whole(h), laid(h), join(whole(h), zeros(1)))
	}
	for _, b := range lists {
		for _, room := range []byte{0, 1, 71, 128, 255} {
			memory := join(b, bytes.Repeat([]byte{room}, 32))
			before := bytes.Clone(memory)
			index.Get(memory[:len(b)])
			if !bytes.Equal(memory, before) {
				t.Fatalf("Get(%v) changed it", b[:min(80, len(b))])
			}
		}
	}
}

// What is put hangs on the head of each call alone; and what is told is nobody else's.
func TestPutIsNewMemory(t *testing.T) {
	for _, h := range some() {
		mine := index.Head{Kind: h.Kind, List: slices.Clone(h.List)}
		want := laid(h)
		first, _ := index.Put(mine)
		second, _ := index.Put(mine)
		overwrite(first)
		if !bytes.Equal(second, want) {
			t.Fatalf("%s: two answers share memory", short(h))
		}
		if !slices.Equal(mine.List, h.List) {
			t.Fatalf("%s: the answer shares memory with the list", short(h))
		}
		overwriteList(mine.List)
		mine.Kind = 9
		if !bytes.Equal(second, want) {
			t.Fatalf("%s: the list is kept", short(h))
		}
		holdPut(t, h, want, nil)
	}
}

// What is got hangs on the bytes of each call alone; and what is told is nobody else's.
func TestGetIsNewMemory(t *testing.T) {
	for _, h := range some() {
		b := whole(h)
		size := len(laid(h))
		first, _, _ := index.Get(b)
		second, _, _ := index.Get(b)
		overwriteList(first.List)
		if !same(second, h) {
			t.Fatalf("%s: two answers share memory", short(h))
		}
		if !bytes.Equal(b, whole(h)) {
			t.Fatalf("%s: the answer shares memory with the bytes", short(h))
		}
		overwrite(b)
		if !same(second, h) {
			t.Fatalf("%s: the bytes are kept", short(h))
		}
		holdErr(t, b, api.ErrMagic)
		overwrite(b)
		holdGet(t, b, h, size, nil)
	}
}

// Calls beside each other know nothing of each other, nor of an error that one told.
func TestCallsKeepNothing(t *testing.T) {
	list := some()
	var put [][]byte
	var got []index.Head
	for i, h := range list {
		b, err := index.Put(h)
		if err != nil {
			t.Fatal(short(h), err)
		}
		x, _, err := index.Get(whole(h))
		if err != nil {
			t.Fatal(short(h), err)
		}
		put, got = append(put, b), append(got, x)
		holdErr(t, offIndices()[i%len(offIndices())], api.ErrIndex)
		holdPut(t, head(i, plain(5), plain(5)), nil, api.ErrArg)
	}
	for i, h := range list {
		if !bytes.Equal(put[i], laid(h)) || !same(got[i], h) {
			t.Fatalf("%s: what was told changed", short(h))
		}
	}
}

// What was put, with as many bytes behind it as its Lens tell, is got, whatever these are; with one more, or one fewer, it isn't.
func TestWhatWasPutIsGot(t *testing.T) {
	check := func(h index.Head) {
		t.Helper()
		put, err := index.Put(h)
		if err != nil {
			t.Fatal(short(h), err)
		}
		n := behind(h)
		for _, rest := range [][]byte{zeros(n), ones(n), mixed(uint64(n), n), bytes.Repeat(put, n/len(put)+1)[:n]} {
			holdGet(t, join(put, rest), h, len(put), nil)
			holdErr(t, join(put, rest, []byte{0}), api.ErrIndex)
			if n > 0 {
				holdErr(t, join(put, rest[1:]), api.ErrIndex)
			}
		}
	}
	for _, h := range some() {
		check(h)
		h.Kind = 3 - h.Kind
		check(h)
	}
	for start := range uint64(1500) {
		check(walk(start, int(start%40)))
	}
	for _, a := range edgeTimes() {
		for _, b := range edgeTimes() {
			if a < b {
				check(head(1+int(uint64(a^b)%2), plain(a), plain(b)))
				check(head(1, entry(a, b, 65535, 4)))
			}
		}
	}
}

// What is got, put, is those bytes.
func TestWhatIsGotIsPut(t *testing.T) {
	got := 0
	check := func(b []byte) {
		t.Helper()
		h, n, err := index.Get(b)
		if err != nil {
			return
		}
		got++
		if put, err := index.Put(h); err != nil || n > len(b) || !bytes.Equal(put, b[:n]) {
			t.Fatalf("%v: %s, %d; put: %v, %v", b[:min(80, len(b))], short(h), n, put[:min(80, len(put))], err)
		}
	}
	for _, h := range some() {
		b, size := whole(h), len(laid(h))
		check(b)
		if len(h.List) > 5 {
			continue
		}
		for i := range size - 4 {
			for c := range 256 {
				other := bytes.Clone(b)
				other[i] = byte(c)
				check(join(summed(other[:size-4]), other[size:]))
			}
		}
	}
	if got < 20000 {
		t.Errorf("only %d were got", got)
	}
}
