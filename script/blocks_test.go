package script_test

import (
	"bytes"
	"encoding/binary"
	"fmt"
	"hash/crc32"
	"math"
	"runtime"
	"slices"
	"testing"

	"gaiter/api"
	"gaiter/chunk"
	"gaiter/index"
	"gaiter/pack"
)

// What the tests of this package lay: samples, their blocks, and bytes that are none.

const (
	least    = math.MinInt64
	greatest = math.MaxInt64
	all      = uint64(math.MaxUint64)
	half     = uint64(1) << 63
	mixed    = uint64(0x0123456789abcdef)
)

// short tells a list as far as a test's output needs it.
func short(list []api.Sample) string {
	return fmt.Sprintf("%d samples from %v", len(list), list[:min(4, len(list))])
}

// brief tells bytes as far as a test's output needs them.
func brief(b []byte) string { return fmt.Sprintf("%d bytes %v", len(b), b[:min(80, len(b))]) }

func bothKinds() []int { return []int{api.Xor, api.Ints} }

// mixer tells numbers that hang on a start alone, the lowest bits as mixed as the highest ones.
func mixer(start uint64) func() uint64 {
	v := start
	return func() uint64 {
		v = v*6364136223846793005 + 1442695040888963407
		x := v
		x ^= x >> 32
		x *= 0xd6e8feb86659fd93
		return x ^ x>>32
	}
}

// timed tells samples of these times; their values are 0, all bits 1, mixed ones, and such as stand twice.
func timed(times ...int64) []api.Sample {
	next := mixer(uint64(len(times)))
	list := make([]api.Sample, len(times))
	for i, x := range times {
		v := []uint64{mixed, 0, all, 1, half, uint64(x), next(), next()}[(i+len(times))%8]
		list[i] = api.Sample{T: x, V: v}
	}
	return list
}

// even tells n samples from a time on, so many apart.
func even(from int64, n int, step int64) []api.Sample {
	times := make([]int64, n)
	for i := range times {
		times[i] = from + int64(i)*step
	}
	return timed(times...)
}

// walk tells n samples of rising times, from anywhere on: steps of 1, small ones, and as great ones as n of them have room.
func walk(start uint64, n int) []api.Sample {
	next := mixer(start)
	room := all/uint64(n+1) - 1
	x := int64(half + next()%room)
	times := make([]int64, n)
	for i := range times {
		times[i] = x
		switch next() % 4 {
		case 0:
			x++
		case 1:
			x += 1 + int64(next()%9)
		default:
			x += int64(1 + next()>>(next()%64)%room)
		}
	}
	return timed(times...)
}

// edgeTimes tells times that rise, near the ends, around 0, and between.
func edgeTimes() []int64 {
	return []int64{least, least + 1, least + 64, -1 << 62, -1<<32 - 1, -1 << 32, -300, -2, -1, 0, 1, 2, 63, 128, 16384, 1 << 31, 1 << 62, greatest - 1, greatest}
}

// asked tells times to seek: the ends, those of the samples, one below and one above each, between them, and far from them.
func asked(list []api.Sample) []int64 {
	l := append(edgeTimes(), least+2, greatest-2, 1<<32, math.MaxInt32, math.MinInt32)
	for i, x := range list {
		l = append(l, x.T, x.T+1, x.T-1, ^x.T)
		if i > 0 {
			l = append(l, x.T-int64(uint64(x.T-list[i-1].T)/2))
		}
	}
	slices.Sort(l)
	return slices.Compact(l)
}

// packed tells samples' block.
func packed(t *testing.T, kind int, list []api.Sample, size int) []byte {
	t.Helper()
	b, err := pack.Pack(kind, list, size)
	if err != nil {
		t.Fatalf("%d, %s by %d: %v", kind, short(list), size, err)
	}
	return b
}

// summed tells bytes with their sum behind them, by the library.
func summed(body []byte) []byte {
	return binary.BigEndian.AppendUint32(bytes.Clone(body), crc32.ChecksumIEEE(body))
}

// piece is a chunk, and what an index tells of it.
type piece struct {
	e index.Entry
	b []byte
}

// good tells samples' chunk.
func good(t *testing.T, kind int, list []api.Sample) piece {
	t.Helper()
	body, err := chunk.Encode(kind, list)
	if err != nil {
		t.Fatalf("%d, %s: %v", kind, short(list), err)
	}
	return piece{index.Entry{Min: list[0].T, Max: list[len(list)-1].T, Count: len(list), Len: len(body) + 4}, summed(body)}
}

// laid tells the block of chunks.
func laid(t *testing.T, kind int, pieces ...piece) []byte {
	t.Helper()
	h := index.Head{Kind: kind}
	var rest []byte
	for _, p := range pieces {
		h.List = append(h.List, p.e)
		rest = append(rest, p.b...)
	}
	front, err := index.Put(h)
	if err != nil {
		t.Fatalf("%d, %v: %v", kind, h.List[:min(9, len(h.List))], err)
	}
	return append(front, rest...)
}

// block is bytes, the samples of their longest good beginning, the error behind these, and all samples that were laid in them.
type block struct {
	name string
	b    []byte
	list []api.Sample
	code api.Code
	all  []api.Sample
}

// lists tells lists of samples whose times rise: none, one, few, and some more.
func lists() [][]api.Sample {
	l := [][]api.Sample{nil, timed(edgeTimes()...), timed(least, -1, 0, greatest), timed(least, 7, 8, greatest), {{T: -1, V: all}, {T: 0}, {T: 1, V: all}}}
	for _, x := range []int64{least, -1, 0, 1, greatest} {
		l = append(l, timed(x), []api.Sample{{T: x}}, []api.Sample{{T: x, V: all}})
	}
	l = append(l, timed(least, greatest), timed(-1, 0), timed(0, 1))
	for _, n := range []int{2, 5, 33} {
		l = append(l, even(-int64(n)/2, n, 1), even(-1000*int64(n)/2, n, 1000), even(greatest-int64(n)+1, n, 1), even(least, n, 2), walk(uint64(n), n))
	}
	return l
}

// sizes tells how many of n samples a chunk has in the tests: 1, 2, some, as many as there are, and above.
func sizes(n int) []int {
	l := []int{1, 2, 3, 7, 32, max(n, 1), n + 1, api.MaxCount}
	slices.Sort(l)
	return slices.Compact(l)
}

// goods tells blocks that are good all through.
func goods(t *testing.T) []block {
	t.Helper()
	var l []block
	for _, list := range lists() {
		for _, size := range sizes(len(list)) {
			for _, kind := range bothKinds() {
				name := fmt.Sprintf("%s of kind %d by %d", short(list), kind, size)
				l = append(l, block{name, packed(t, kind, list, size), list, 0, list})
			}
		}
	}
	return l
}

// spoil makes a good chunk of two samples or more one that isn't good, and this is its error.
type spoil struct {
	name   string
	change func(p piece) piece
	code   api.Code
}

// spoils tells reasons why a chunk isn't good; but for those that are the sum, the sum is laid anew.
func spoils() []spoil {
	var l []spoil
	// body changes the bytes ahead of the sum.
	body := func(name string, code api.Code, change func(b []byte) []byte) {
		l = append(l, spoil{name, func(p piece) piece {
			p.b = summed(change(bytes.Clone(p.b[:len(p.b)-4])))
			p.e.Len = len(p.b)
			return p
		}, code})
	}
	// turned turns a bit of the chunk; from below 0 on it is counted from behind.
	turned := func(at int) {
		l = append(l, spoil{fmt.Sprintf("byte %d turned", at), func(p piece) piece {
			p.b = bytes.Clone(p.b)
			p.b[(at+len(p.b))%len(p.b)] ^= 1 << (uint(at) % 8)
			return p
		}, api.ErrSum})
	}
	// entry changes what the index tells.
	entry := func(name string, code api.Code, change func(e *index.Entry)) {
		l = append(l, spoil{name, func(p piece) piece {
			change(&p.e)
			return p
		}, code})
	}
	turned(0)
	turned(15)
	turned(16)
	turned(-1)
	turned(-5)
	body("no bytes", api.ErrShort, func(b []byte) []byte { return nil })
	body("cut off", api.ErrShort, func(b []byte) []byte { return b[:len(b)-1] })
	body("one sample", api.ErrShort, func(b []byte) []byte { return b[:16] })
	body("a byte behind", api.ErrForm, func(b []byte) []byte { return append(b, 0) })
	body("a code that is too long", api.ErrForm, func(b []byte) []byte { return append(b[:16], 128, 0, 0, 0, 0, 0, 0) })
	body("a time that stands", api.ErrOrder, func(b []byte) []byte { return append(b[:16], make([]byte, 60)...) })
	body("a time that goes back", api.ErrOrder, func(b []byte) []byte { return append(b[:16], 191, 128, 0, 0, 0, 0, 0) })
	entry("Count above", api.ErrShort, func(e *index.Entry) { e.Count = 65535 })
	entry("Count below", api.ErrForm, func(e *index.Entry) { e.Count = 1 })
	entry("Min below", api.ErrIndex, func(e *index.Entry) { e.Min-- })
	entry("Max above", api.ErrIndex, func(e *index.Entry) { e.Max++ })
	entry("Min above", api.ErrIndex, func(e *index.Entry) { e.Min++ })
	entry("Max below", api.ErrIndex, func(e *index.Entry) { e.Max-- })
	// both spoils twice: what comes first in layer 16's words is told.
	both := func(a, b int, code api.Code) {
		x, y := l[a], l[b]
		l = append(l, spoil{x.name + ", and " + y.name, func(p piece) piece { return y.change(x.change(p)) }, code})
	}
	both(7, 2, api.ErrSum)     // cut off, and a byte turned
	both(0, 14, api.ErrSum)    // a byte turned, and Min
	both(3, 12, api.ErrSum)    // a byte of the sum, and Count
	both(6, 15, api.ErrShort)  // cut off, and Max
	both(8, 14, api.ErrForm)   // a byte behind, and Min
	both(13, 17, api.ErrForm)  // Count, and Max
	both(11, 16, api.ErrOrder) // a time, and Min
	return l
}

// spoilt tells a block of both kinds for each reason and each of its chunks that isn't good: of these each is of 2 samples or more, and far from the next one.
func spoilt(t *testing.T, counts ...int) []block {
	t.Helper()
	var l []block
	for _, kind := range bothKinds() {
		var pieces []piece
		var all []api.Sample
		begins := []int{0}
		for i, n := range counts {
			list := even(1_000_000*int64(i-1)-7, n, 1000)
			pieces, all = append(pieces, good(t, kind, list)), append(all, list...)
			begins = append(begins, len(all))
		}
		for i := range pieces {
			for _, s := range spoils() {
				bad := slices.Clone(pieces)
				bad[i] = s.change(bad[i])
				name := fmt.Sprintf("kind %d, chunk %d of %v: %s", kind, i, counts, s.name)
				l = append(l, block{name, laid(t, kind, bad...), all[:begins[i]], s.code, all})
			}
		}
	}
	return l
}

// bads tells blocks of which a chunk isn't good.
func bads(t *testing.T) []block {
	t.Helper()
	return slices.Concat(spoilt(t, 2), spoilt(t, 3, 2), spoilt(t, 2, 5, 4), spoilt(t, 33, 2, 3, 9))
}

// none tells bytes that begin with no index, or with one that isn't that of what stands behind.
func none(t *testing.T) []block {
	t.Helper()
	l := []block{{"nil", nil, nil, api.ErrMagic, nil}, {"no bytes", []byte{}, nil, api.ErrMagic, nil}}
	for _, kind := range bothKinds() {
		list := even(-1000, 5, 500)
		b := packed(t, kind, list, 3)
		_, n, err := index.Get(b)
		if err != nil {
			t.Fatal(err)
		}
		front, rest := b[:n-4], b[n:]
		add := func(name string, code api.Code, b []byte) {
			l = append(l, block{fmt.Sprintf("kind %d: %s", kind, name), b, nil, code, list})
		}
		// anew lays the sum of the index anew, a byte of it being others.
		anew := func(at int, v ...byte) []byte {
			return slices.Concat(summed(slices.Replace(bytes.Clone(front), at, at+1, v...)), rest)
		}
		add("its first byte alone", api.ErrMagic, b[:1])
		add("without its first byte", api.ErrMagic, b[1:])
		add("another first byte", api.ErrMagic, anew(0, 70))
		add("another fourth byte", api.ErrMagic, anew(3, 50))
		add("the chunks alone", api.ErrMagic, rest)
		add("four bytes", api.ErrShort, b[:4])
		add("half an index", api.ErrShort, b[:n/2])
		add("an index but for a byte", api.ErrShort, b[:n-1])
		add("kind 0", api.ErrKind, anew(4, 0))
		add("kind 3", api.ErrKind, anew(4, 3))
		add("a number that is too long", api.ErrForm, anew(5, 130, 0))
		add("too many chunks", api.ErrLarge, anew(5, 128, 128, 4))
		add("another sum", api.ErrSum, slices.Concat(front, []byte{1, 2, 3, 4}, rest))
		add("Count 0", api.ErrIndex, anew(len(front)-2, 0))
		add("Len 3", api.ErrIndex, anew(len(front)-1, 3))
		add("an index alone", api.ErrIndex, b[:n])
		add("without its last byte", api.ErrIndex, b[:len(b)-1])
		add("a byte behind", api.ErrIndex, append(bytes.Clone(b), 0))
		add("another block behind", api.ErrIndex, slices.Concat(b, b))
	}
	return l
}

// every tells all these blocks.
func every(t *testing.T) []block {
	t.Helper()
	return slices.Concat(goods(t), bads(t), none(t))
}

// three is a block written out, of two chunks: {10 5} and {20 8}, and {30 11}.
func three() []byte {
	return []byte{71, 84, 83, 49, 2, 2,
		0, 0, 0, 0, 0, 0, 0, 10, 10, 2, 23,
		0, 0, 0, 0, 0, 0, 0, 30, 0, 1, 20,
		143, 179, 76, 35,
		0, 0, 0, 0, 0, 0, 0, 10, 0, 0, 0, 0, 0, 0, 0, 5,
		133, 64, 192,
		139, 2, 133, 226,
		0, 0, 0, 0, 0, 0, 0, 30, 0, 0, 0, 0, 0, 0, 0, 11,
		31, 107, 11, 62}
}

// wide is a block written out, of two chunks: {-2^63 and all bits} and {-1 7}, {0 7} and {2^63-1 0}.
func wide() []byte {
	return []byte{71, 84, 83, 49, 1, 2,
		128, 0, 0, 0, 0, 0, 0, 0, 255, 255, 255, 255, 255, 255, 255, 255, 127, 2, 38,
		0, 0, 0, 0, 0, 0, 0, 0, 255, 255, 255, 255, 255, 255, 255, 255, 127, 2, 31,
		124, 252, 166, 131,
		128, 0, 0, 0, 0, 0, 0, 0, 255, 255, 255, 255, 255, 255, 255, 255,
		247, 255, 255, 255, 255, 255, 255, 255, 252, 15, 63, 255, 255, 255, 255, 255, 255, 254,
		141, 138, 100, 53,
		0, 0, 0, 0, 0, 0, 0, 0, 0, 0, 0, 0, 0, 0, 0, 7,
		247, 255, 255, 255, 255, 255, 255, 255, 255, 208, 184,
		216, 208, 254, 167}
}

// turned tells bytes, of which one is turned by some bits.
func turned(b []byte, at int, by byte) []byte {
	b = bytes.Clone(b)
	b[at] ^= by
	return b
}

// someOf tells some of many times, and always the ends.
func someOf(times []int64, start, step int) []int64 {
	l := []int64{least, greatest}
	for i := start % step; i < len(times); i += step {
		l = append(l, times[i])
	}
	return l
}

// askedOf tells a time to seek, mostly near the samples of a list.
func askedOf(next func() uint64, list []api.Sample, from int) int64 {
	if len(list) == 0 || next()%8 == 0 {
		return int64(next()) >> (next() % 64)
	}
	i := int(next()>>1) % len(list)
	if next()%2 == 0 {
		i = min(max(from, 0)+int(next()%4), len(list)-1)
	}
	switch next() % 8 {
	case 0:
		return edgeTimes()[next()%19]
	case 1:
		return list[i].T + int64(next()%2000) - 1000
	default:
		return list[i].T + int64(next()%3) - 1
	}
}

// spent tells how many bytes of memory a call took.
func spent(call func()) uint64 {
	var before, behind runtime.MemStats
	runtime.ReadMemStats(&before)
	call()
	runtime.ReadMemStats(&behind)
	return behind.TotalAlloc - before.TotalAlloc
}
