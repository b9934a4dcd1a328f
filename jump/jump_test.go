package jump_test

import (
	"bytes"
	"encoding/binary"
	"fmt"
	"hash/crc32"
	"math"
	"runtime"
	"slices"
	"sync"
	"testing"

	"gaiter/api"
	"gaiter/chunk"
	"gaiter/index"
	"gaiter/jump"
	"gaiter/pack"
	"gaiter/quick"
	"gaiter/scan"
	"gaiter/whole"
)

// The tests hold an iterator against answers written out; against layer 18's iterator of the same bytes, by P19.1's words; and against a plain account of these words, and of T3 to T5, of samples that the tests lay themselves.

const (
	least    = math.MinInt64
	greatest = math.MaxInt64
	all      = uint64(math.MaxUint64)
	half     = uint64(1) << 63
	mixed    = uint64(0x0123456789abcdef)
)

var _ api.Iterator = (*jump.Iterator)(nil)

// account is what DOC.md's words say of an iterator over the samples of the longest good beginning, and the error behind them; and what P19.1 says of its chunks.
type account struct {
	list []api.Sample
	code api.Code
	at   int
	done bool
	ends []int // of each good chunk, how many samples there are up to its last one
	most int   // how many chunks were decoded at the end
}

func (a *account) next() bool {
	if !a.done && a.at+1 < len(a.list) {
		a.at++
		return true
	}
	a.done = true
	return false
}

func (a *account) seek(t int64) bool {
	for i := max(a.at, 0); i < len(a.list) && !a.done; i++ {
		if a.list[i].T >= t {
			a.at = i
			return true
		}
	}
	a.done = true
	return false
}

func (a *account) look() api.Sample {
	if a.done || a.at < 0 {
		return api.Sample{}
	}
	return a.list[a.at]
}

func (a *account) err() api.Code {
	if a.done {
		return a.code
	}
	return 0
}

func (a *account) checked() int {
	if a.done {
		return a.most
	}
	if a.at < 0 {
		return 0
	}
	for i, end := range a.ends {
		if a.at < end {
			return i + 1
		}
	}
	return -1
}

// accountOf tells the account of bytes that must tell these samples, and this error; 0 is none.
func accountOf(b []byte, list []api.Sample, code api.Code) account {
	a := account{list: list, code: code, at: -1}
	h, _, err := index.Get(b)
	if err != nil {
		return a
	}
	n := 0
	for _, e := range h.List {
		a.most++
		n += e.Count
		if n > len(list) {
			break
		}
		a.ends = append(a.ends, n)
	}
	return a
}

// walker is an iterator, and what it is held against.
type walker struct {
	name string
	x    *jump.Iterator
	y    *scan.Iterator
	a    account
}

// begin tells a walker of bytes that must tell these samples, and this error; 0 is none.
func begin(t *testing.T, name string, b []byte, list []api.Sample, code api.Code) *walker {
	t.Helper()
	l, err := whole.Decode(b)
	if !isCode(err, code) || !slices.Equal(l, list) {
		t.Fatalf("%s: the test's own bytes tell %s, %v, not %s, %v", name, short(l), err, short(list), code)
	}
	return start(t, name, b, accountOf(b, list, code))
}

// start tells a walker ahead of all.
func start(t *testing.T, name string, b []byte, a account) *walker {
	t.Helper()
	w := &walker{name, fresh(t, name, b), scan.New(b), a}
	w.hold(t, "New", true, true, true)
	return w
}

// of tells a walker of any bytes.
func of(t *testing.T, b []byte) *walker {
	t.Helper()
	l, err := whole.Decode(b)
	return begin(t, brief(b), b, slices.Clone(l), codeOf(err))
}

// fresh tells an iterator of bytes.
func fresh(t *testing.T, name string, b []byte) *jump.Iterator {
	t.Helper()
	x := jump.New(b)
	if x == nil {
		t.Fatalf("%s: New tells nil", name)
	}
	return x
}

// hold fails the test, if a call's answer, or where the iterator stands behind it, its error or its chunks, aren't layer 18's, or aren't the account's.
func (w *walker) hold(t *testing.T, call string, ok, okY, okA bool) {
	t.Helper()
	before := w.x.Checked()
	at, v := w.x.At()
	err := w.x.Err()
	atY, vY := w.y.At()
	if ok != okY || at != atY || v != vY || !isCode(err, codeOf(w.y.Err())) {
		t.Fatalf("%s: %s: %t, At %d, %d, Err %v; layer 18's: %t, %d, %d, %v", w.name, call, ok, at, v, err, okY, atY, vY, w.y.Err())
	}
	if s := w.a.look(); ok != okA || at != s.T || v != s.V || !isCode(err, w.a.err()) {
		t.Fatalf("%s: %s: %t, At %d, %d, Err %v; want %t, %d, %d, %v", w.name, call, ok, at, v, err, okA, s.T, s.V, w.a.err())
	}
	if behind := w.x.Checked(); before != w.a.checked() || behind != before {
		t.Fatalf("%s: %s: Checked %d, and behind At and Err %d; want %d", w.name, call, before, behind, w.a.checked())
	}
}

// next calls Next, and holds its answer.
func (w *walker) next(t *testing.T) bool {
	t.Helper()
	ok := w.x.Next()
	w.hold(t, "Next", ok, w.y.Next(), w.a.next())
	return ok
}

// seek calls SeekTo, and holds its answer.
func (w *walker) seek(t *testing.T, to int64) bool {
	t.Helper()
	ok := w.x.SeekTo(to)
	w.hold(t, fmt.Sprintf("SeekTo(%d)", to), ok, w.y.SeekTo(to), w.a.seek(to))
	return ok
}

// through goes on to the end, and somewhat beyond.
func (w *walker) through(t *testing.T) {
	t.Helper()
	for w.next(t) {
	}
	w.next(t)
	w.seek(t, least)
	w.seek(t, greatest)
	w.next(t)
}

// isCode tells whether an error is this one, the value itself; 0 is none.
func isCode(err error, want api.Code) bool {
	if err == nil {
		return want == 0
	}
	code, ok := err.(api.Code)
	return ok && want != 0 && code == want
}

// codeOf tells an error's number, or 0.
func codeOf(err error) api.Code {
	code, _ := err.(api.Code)
	return code
}

// short tells a list as far as a test's output needs it.
func short(list []api.Sample) string {
	return fmt.Sprintf("%d samples from %v", len(list), list[:min(4, len(list))])
}

// brief tells bytes as far as a test's output needs them.
func brief(b []byte) string { return fmt.Sprintf("%d bytes %v", len(b), b[:min(80, len(b))]) }

func bothKinds() []int { return []int{api.Xor, api.Ints} }

// mixer tells numbers that hang on a start alone, the lowest bits as mixed as the highest ones.
func mixer(start uint64) func() uint64 {
	v := start
	return func() uint64 {
		v = v*6364136223846793005 + 1442695040888963407
		x := v
		x ^= x >> 32
		x *= 0xd6e8feb86659fd93
		return x ^ x>>32
	}
}

// timed tells samples of these times; their values are 0, all bits 1, mixed ones, and such as stand twice.
func timed(times ...int64) []api.Sample {
	next := mixer(uint64(len(times)))
	list := make([]api.Sample, len(times))
	for i, x := range times {
		v := []uint64{mixed, 0, all, 1, half, uint64(x), next(), next()}[(i+len(times))%8]
		list[i] = api.Sample{T: x, V: v}
	}
	return list
}

// even tells n samples from a time on, so many apart.
func even(from int64, n int, step int64) []api.Sample {
	times := make([]int64, n)
	for i := range times {
		times[i] = from + int64(i)*step
	}
	return timed(times...)
}

// walk tells n samples of rising times, from anywhere on: steps of 1, small ones, and as great ones as n of them have room.
func walk(start uint64, n int) []api.Sample {
	next := mixer(start)
	room := all/uint64(n+1) - 1
	x := int64(half + next()%room)
	times := make([]int64, n)
	for i := range times {
		times[i] = x
		switch next() % 4 {
		case 0:
			x++
		case 1:
			x += 1 + int64(next()%9)
		default:
			x += int64(1 + next()>>(next()%64)%room)
		}
	}
	return timed(times...)
}

// edgeTimes tells times that rise, near the ends, around 0, and between.
func edgeTimes() []int64 {
	return []int64{least, least + 1, least + 64, -1 << 62, -1<<32 - 1, -1 << 32, -300, -2, -1, 0, 1, 2, 63, 128, 16384, 1 << 31, 1 << 62, greatest - 1, greatest}
}

// asked tells times to seek: the ends, those of the samples, one below and one above each, between them, and far from them.
func asked(list []api.Sample) []int64 {
	l := append(edgeTimes(), least+2, greatest-2, 1<<32, math.MaxInt32, math.MinInt32)
	for i, x := range list {
		l = append(l, x.T, x.T+1, x.T-1, ^x.T)
		if i > 0 {
			l = append(l, x.T-int64(uint64(x.T-list[i-1].T)/2))
		}
	}
	slices.Sort(l)
	return slices.Compact(l)
}

// packed tells samples' block.
func packed(t *testing.T, kind int, list []api.Sample, size int) []byte {
	t.Helper()
	b, err := pack.Pack(kind, list, size)
	if err != nil {
		t.Fatalf("%d, %s by %d: %v", kind, short(list), size, err)
	}
	return b
}

// summed tells bytes with their sum behind them, by the library.
func summed(body []byte) []byte {
	return binary.BigEndian.AppendUint32(bytes.Clone(body), crc32.ChecksumIEEE(body))
}

// piece is a chunk, and what an index tells of it.
type piece struct {
	e index.Entry
	b []byte
}

// good tells samples' chunk.
func good(t *testing.T, kind int, list []api.Sample) piece {
	t.Helper()
	body, err := chunk.Encode(kind, list)
	if err != nil {
		t.Fatalf("%d, %s: %v", kind, short(list), err)
	}
	return piece{index.Entry{Min: list[0].T, Max: list[len(list)-1].T, Count: len(list), Len: len(body) + 4}, summed(body)}
}

// laid tells the block of chunks.
func laid(t *testing.T, kind int, pieces ...piece) []byte {
	t.Helper()
	h := index.Head{Kind: kind}
	var rest []byte
	for _, p := range pieces {
		h.List = append(h.List, p.e)
		rest = append(rest, p.b...)
	}
	front, err := index.Put(h)
	if err != nil {
		t.Fatalf("%d, %v: %v", kind, h.List[:min(9, len(h.List))], err)
	}
	return append(front, rest...)
}

// block is bytes, the samples of their longest good beginning, the error behind these, how many chunks are decoded then, and all samples that were laid in them.
type block struct {
	name string
	b    []byte
	list []api.Sample
	code api.Code
	most int
	all  []api.Sample
}

func (k block) begin(t *testing.T) *walker {
	t.Helper()
	w := begin(t, k.name, k.b, k.list, k.code)
	if w.a.most != k.most {
		t.Fatalf("%s: the test's own bytes have %d chunks to decode, not %d", k.name, w.a.most, k.most)
	}
	return w
}

// times tells times to seek: those of the samples, and of the index, and one below and one above each of these, too.
func (k block) times() []int64 {
	l := asked(k.all)
	h, _, _ := index.Get(k.b)
	for _, e := range h.List {
		l = append(l, e.Min-1, e.Min, e.Min+1, e.Max-1, e.Max, e.Max+1)
	}
	slices.Sort(l)
	return slices.Compact(l)
}

// by tells how many chunks there are of n samples by a size.
func by(n, size int) int { return (n + size - 1) / size }

// lists tells lists of samples whose times rise: none, one, few, and some more.
func lists() [][]api.Sample {
	l := [][]api.Sample{nil, timed(edgeTimes()...), timed(least, -1, 0, greatest), {{T: -1, V: all}, {T: 0}, {T: 1, V: all}}}
	for _, x := range []int64{least, -1, 0, 1, greatest} {
		l = append(l, timed(x), []api.Sample{{T: x}}, []api.Sample{{T: x, V: all}})
	}
	l = append(l, timed(least, greatest), timed(-1, 0), timed(0, 1))
	for _, n := range []int{2, 5, 33} {
		l = append(l, even(-int64(n)/2, n, 1), even(-1000*int64(n)/2, n, 1000), even(greatest-int64(n)+1, n, 1), even(least, n, 2), walk(uint64(n), n))
	}
	return l
}

// sizes tells how many of n samples a chunk has in the tests: 1, 2, some, as many as there are, and above.
func sizes(n int) []int {
	l := []int{1, 2, 3, 7, 32, max(n, 1), n + 1, api.MaxCount}
	slices.Sort(l)
	return slices.Compact(l)
}

// goods tells blocks that are good all through.
func goods(t *testing.T) []block {
	t.Helper()
	var l []block
	for _, list := range lists() {
		for _, size := range sizes(len(list)) {
			for _, kind := range bothKinds() {
				name := fmt.Sprintf("%s of kind %d by %d", short(list), kind, size)
				l = append(l, block{name, packed(t, kind, list, size), list, 0, by(len(list), size), list})
			}
		}
	}
	return l
}

// spoil makes a good chunk of two samples or more one that isn't good, and this is its error.
type spoil struct {
	name   string
	change func(p piece) piece
	code   api.Code
}

// spoils tells reasons why a chunk isn't good; but for those that are the sum, the sum is laid anew.
func spoils() []spoil {
	var l []spoil
	// body changes the bytes ahead of the sum.
	body := func(name string, code api.Code, change func(b []byte) []byte) {
		l = append(l, spoil{name, func(p piece) piece {
			p.b = summed(change(bytes.Clone(p.b[:len(p.b)-4])))
			p.e.Len = len(p.b)
			return p
		}, code})
	}
	// turned turns a bit of the chunk; from below 0 on it is counted from behind.
	turned := func(at int) {
		l = append(l, spoil{fmt.Sprintf("byte %d turned", at), func(p piece) piece {
			p.b = bytes.Clone(p.b)
			p.b[(at+len(p.b))%len(p.b)] ^= 1 << (uint(at) % 8)
			return p
		}, api.ErrSum})
	}
	// entry changes what the index tells.
	entry := func(name string, code api.Code, change func(e *index.Entry)) {
		l = append(l, spoil{name, func(p piece) piece {
			change(&p.e)
			return p
		}, code})
	}
	turned(0)
	turned(15)
	turned(16)
	turned(-1)
	turned(-5)
	body("no bytes", api.ErrShort, func(b []byte) []byte { return nil })
	body("cut off", api.ErrShort, func(b []byte) []byte { return b[:len(b)-1] })
	body("one sample", api.ErrShort, func(b []byte) []byte { return b[:16] })
	body("a byte behind", api.ErrForm, func(b []byte) []byte { return append(b, 0) })
	body("a code that is too long", api.ErrForm, func(b []byte) []byte { return append(b[:16], 128, 0, 0, 0, 0, 0, 0) })
	body("a time that stands", api.ErrOrder, func(b []byte) []byte { return append(b[:16], make([]byte, 60)...) })
	body("a time that goes back", api.ErrOrder, func(b []byte) []byte { return append(b[:16], 191, 128, 0, 0, 0, 0, 0) })
	entry("Count above", api.ErrShort, func(e *index.Entry) { e.Count = 65535 })
	entry("Count below", api.ErrForm, func(e *index.Entry) { e.Count = 1 })
	entry("Min below", api.ErrIndex, func(e *index.Entry) { e.Min-- })
	entry("Max above", api.ErrIndex, func(e *index.Entry) { e.Max++ })
	entry("Min above", api.ErrIndex, func(e *index.Entry) { e.Min++ })
	entry("Max below", api.ErrIndex, func(e *index.Entry) { e.Max-- })
	// both spoils twice: what comes first in layer 16's words is told.
	both := func(a, b int, code api.Code) {
		x, y := l[a], l[b]
		l = append(l, spoil{x.name + ", and " + y.name, func(p piece) piece { return y.change(x.change(p)) }, code})
	}
	both(7, 2, api.ErrSum)     // cut off, and a byte turned
	both(0, 14, api.ErrSum)    // a byte turned, and Min
	both(3, 12, api.ErrSum)    // a byte of the sum, and Count
	both(6, 15, api.ErrShort)  // cut off, and Max
	both(8, 14, api.ErrForm)   // a byte behind, and Min
	both(13, 17, api.ErrForm)  // Count, and Max
	both(11, 16, api.ErrOrder) // a time, and Min
	return l
}

// spoilt tells a block of both kinds for each reason and each of its chunks that isn't good: of these each is of 2 samples or more, and far from the next one.
func spoilt(t *testing.T, counts ...int) []block {
	t.Helper()
	var l []block
	for _, kind := range bothKinds() {
		var pieces []piece
		var all []api.Sample
		begins := []int{0}
		for i, n := range counts {
			list := even(1_000_000*int64(i-1)-7, n, 1000)
			pieces, all = append(pieces, good(t, kind, list)), append(all, list...)
			begins = append(begins, len(all))
		}
		for i := range pieces {
			for _, s := range spoils() {
				bad := slices.Clone(pieces)
				bad[i] = s.change(bad[i])
				name := fmt.Sprintf("kind %d, chunk %d of %v: %s", kind, i, counts, s.name)
				l = append(l, block{name, laid(t, kind, bad...), all[:begins[i]], s.code, i + 1, all})
			}
		}
	}
	return l
}

// bads tells blocks of which a chunk isn't good.
func bads(t *testing.T) []block {
	t.Helper()
	return slices.Concat(spoilt(t, 2), spoilt(t, 3, 2), spoilt(t, 2, 5, 4), spoilt(t, 33, 2, 3, 9))
}

// none tells bytes that begin with no index, or with one that isn't that of what stands behind.
func none(t *testing.T) []block {
	t.Helper()
	l := []block{{"nil", nil, nil, api.ErrMagic, 0, nil}, {"no bytes", []byte{}, nil, api.ErrMagic, 0, nil}}
	for _, kind := range bothKinds() {
		list := even(-1000, 5, 500)
		b := packed(t, kind, list, 3)
		_, n, err := index.Get(b)
		if err != nil {
			t.Fatal(err)
		}
		front, rest := b[:n-4], b[n:]
		add := func(name string, code api.Code, b []byte) {
			l = append(l, block{fmt.Sprintf("kind %d: %s", kind, name), b, nil, code, 0, list})
		}
		// anew lays the sum of the index anew, a byte of it being others.
		anew := func(at int, v ...byte) []byte {
			return slices.Concat(summed(slices.Replace(bytes.Clone(front), at, at+1, v...)), rest)
		}
		add("its first byte alone", api.ErrMagic, b[:1])
		add("without its first byte", api.ErrMagic, b[1:])
		add("another first byte", api.ErrMagic, anew(0, 70))
		add("another fourth byte", api.ErrMagic, anew(3, 50))
		add("the chunks alone", api.ErrMagic, rest)
		add("four bytes", api.ErrShort, b[:4])
		add("half an index", api.ErrShort, b[:n/2])
		add("an index but for a byte", api.ErrShort, b[:n-1])
		add("kind 0", api.ErrKind, anew(4, 0))
		add("kind 3", api.ErrKind, anew(4, 3))
		add("a number that is too long", api.ErrForm, anew(5, 130, 0))
		add("too many chunks", api.ErrLarge, anew(5, 128, 128, 4))
		add("another sum", api.ErrSum, slices.Concat(front, []byte{1, 2, 3, 4}, rest))
		add("Count 0", api.ErrIndex, anew(len(front)-2, 0))
		add("Len 3", api.ErrIndex, anew(len(front)-1, 3))
		add("an index alone", api.ErrIndex, b[:n])
		add("without its last byte", api.ErrIndex, b[:len(b)-1])
		add("a byte behind", api.ErrIndex, append(bytes.Clone(b), 0))
		add("another block behind", api.ErrIndex, slices.Concat(b, b))
	}
	return l
}

// every tells all these blocks.
func every(t *testing.T) []block {
	t.Helper()
	return slices.Concat(goods(t), bads(t), none(t))
}

// step is a call, what is told then, and how many chunks were decoded by then.
type step struct {
	next    bool
	t       int64
	ok      bool
	at      api.Sample
	err     error
	checked int
}

// to is SeekTo, answered true.
func to(t int64, at api.Sample, checked int) step {
	return step{t: t, ok: true, at: at, checked: checked}
}

// on is Next, answered true.
func on(at api.Sample, checked int) step { return step{next: true, ok: true, at: at, checked: checked} }

// off is Next, answered false.
func off(err error, checked int) step { return step{next: true, err: err, checked: checked} }

// beyond is SeekTo, answered false.
func beyond(t int64, err error, checked int) step { return step{t: t, err: err, checked: checked} }

// run is bytes, and calls of one iterator of them.
type run struct {
	b     []byte
	steps []step
}

// three is a block written out, of two chunks: {10 5} and {20 8}, and {30 11}.
func three() []byte {
	return []byte{71, 84, 83, 49, 2, 2,
		0, 0, 0, 0, 0, 0, 0, 10, 10, 2, 23,
		0, 0, 0, 0, 0, 0, 0, 30, 0, 1, 20,
		143, 179, 76, 35,
		0, 0, 0, 0, 0, 0, 0, 10, 0, 0, 0, 0, 0, 0, 0, 5,
		133, 64, 192,
		139, 2, 133, 226,
		0, 0, 0, 0, 0, 0, 0, 30, 0, 0, 0, 0, 0, 0, 0, 11,
		31, 107, 11, 62}
}

// wide is a block written out, of two chunks: {-2^63 and all bits} and {-1 7}, {0 7} and {2^63-1 0}.
func wide() []byte {
	return []byte{71, 84, 83, 49, 1, 2,
		128, 0, 0, 0, 0, 0, 0, 0, 255, 255, 255, 255, 255, 255, 255, 255, 127, 2, 38,
		0, 0, 0, 0, 0, 0, 0, 0, 255, 255, 255, 255, 255, 255, 255, 255, 127, 2, 31,
		124, 252, 166, 131,
		128, 0, 0, 0, 0, 0, 0, 0, 255, 255, 255, 255, 255, 255, 255, 255,
		247, 255, 255, 255, 255, 255, 255, 255, 252, 15, 63, 255, 255, 255, 255, 255, 255, 254,
		141, 138, 100, 53,
		0, 0, 0, 0, 0, 0, 0, 0, 0, 0, 0, 0, 0, 0, 0, 7,
		247, 255, 255, 255, 255, 255, 255, 255, 255, 208, 184,
		216, 208, 254, 167}
}

// turned tells bytes, of which one is turned by some bits.
func turned(b []byte, at int, by byte) []byte {
	b = bytes.Clone(b)
	b[at] ^= by
	return b
}

// runs tells calls, and what is told then, written out.
func runs() []run {
	one, two, last := api.Sample{T: 10, V: 5}, api.Sample{T: 20, V: 8}, api.Sample{T: 30, V: 11}
	a, b, c, d := api.Sample{T: least, V: all}, api.Sample{T: -1, V: 7}, api.Sample{T: 0, V: 7}, api.Sample{T: greatest, V: 0}
	empty := []byte{71, 84, 83, 49, 1, 0, 139, 6, 236, 214}
	first, second := turned(three(), 32, 1), turned(three(), 60, 1)
	return []run{
		{nil, []step{off(api.ErrMagic, 0), off(api.ErrMagic, 0), beyond(least, api.ErrMagic, 0)}},
		{nil, []step{beyond(greatest, api.ErrMagic, 0), beyond(least, api.ErrMagic, 0), off(api.ErrMagic, 0)}},
		{[]byte{}, []step{off(api.ErrMagic, 0), beyond(0, api.ErrMagic, 0)}},
		{empty, []step{off(nil, 0), off(nil, 0), beyond(least, nil, 0)}},
		{empty, []step{beyond(least, nil, 0), beyond(greatest, nil, 0), off(nil, 0)}},
		{empty[:9], []step{off(api.ErrShort, 0), beyond(0, api.ErrShort, 0)}},
		{append(empty, 0), []step{beyond(0, api.ErrIndex, 0), off(api.ErrIndex, 0)}},
		{three(), []step{on(one, 1), on(two, 1), on(last, 2), off(nil, 2), off(nil, 2), beyond(least, nil, 2), beyond(30, nil, 2), off(nil, 2)}},
		{three(), []step{to(10, one, 1), to(11, two, 1), to(20, two, 1), to(21, last, 2), to(30, last, 2), beyond(31, nil, 2), beyond(30, nil, 2), off(nil, 2)}},
		{three(), []step{to(9, one, 1), to(least, one, 1), to(19, two, 1), to(10, two, 1), on(last, 2), to(5, last, 2), off(nil, 2)}},
		{three(), []step{to(least, one, 1), on(two, 1), to(30, last, 2), beyond(greatest, nil, 2), beyond(least, nil, 2)}},
		{three(), []step{to(21, last, 2), to(10, last, 2), off(nil, 2)}},
		{three(), []step{on(one, 1), beyond(31, nil, 2), beyond(20, nil, 2), off(nil, 2)}},
		{three(), []step{beyond(31, nil, 2), beyond(30, nil, 2), off(nil, 2)}},
		{wide(), []step{on(a, 1), on(b, 1), on(c, 2), on(d, 2), off(nil, 2)}},
		{wide(), []step{to(least, a, 1), to(least+1, b, 1), to(-1, b, 1), to(0, c, 2), to(1, d, 2), to(greatest, d, 2), off(nil, 2), beyond(greatest, nil, 2)}},
		{wide(), []step{to(greatest, d, 2), to(least, d, 2), off(nil, 2), beyond(least, nil, 2)}},
		{second, []step{on(one, 1), on(two, 1), off(api.ErrSum, 2), off(api.ErrSum, 2), beyond(10, api.ErrSum, 2)}},
		{second, []step{to(11, two, 1), beyond(21, api.ErrSum, 2), beyond(20, api.ErrSum, 2), off(api.ErrSum, 2)}},
		{second, []step{beyond(30, api.ErrSum, 2), beyond(10, api.ErrSum, 2)}},
		{first, []step{off(api.ErrSum, 1), beyond(30, api.ErrSum, 1)}},
		{first, []step{beyond(30, api.ErrSum, 1), off(api.ErrSum, 1)}},
		{turned(three(), 4, 3), []step{off(api.ErrSum, 0), beyond(10, api.ErrSum, 0)}},
		{turned(three(), 4, 2), []step{beyond(10, api.ErrKind, 0), off(api.ErrKind, 0)}},
		{turned(three(), 0, 1), []step{off(api.ErrMagic, 0), beyond(10, api.ErrMagic, 0)}},
		{three()[:20], []step{beyond(10, api.ErrShort, 0), off(api.ErrShort, 0)}},
		{three()[:len(three())-1], []step{beyond(10, api.ErrIndex, 0), off(api.ErrIndex, 0)}},
		{append(three(), 0), []step{off(api.ErrIndex, 0), beyond(10, api.ErrIndex, 0)}},
	}
}

// The calls tell what is written out.
func TestWrittenOut(t *testing.T) {
	for i, r := range runs() {
		x := fresh(t, fmt.Sprint("run ", i), r.b)
		if at, v := x.At(); at != 0 || v != 0 || x.Err() != nil || x.Checked() != 0 {
			t.Fatalf("run %d: At %d, %d, Err %v, Checked %d ahead of all", i, at, v, x.Err(), x.Checked())
		}
		for k, s := range r.steps {
			ok := false
			if s.next {
				ok = x.Next()
			} else {
				ok = x.SeekTo(s.t)
			}
			at, v := x.At()
			if ok != s.ok || at != s.at.T || v != s.at.V || !isCode(x.Err(), codeOf(s.err)) || x.Checked() != s.checked {
				t.Fatalf("run %d, call %d: %t, At %d, %d, Err %v, Checked %d; want %+v", i, k, ok, at, v, x.Err(), x.Checked(), s)
			}
		}
	}
}

// Ahead of all nothing is told, good or not, however often it is asked for; and asking doesn't go on.
func TestAheadOfAll(t *testing.T) {
	for _, k := range every(t) {
		w := k.begin(t)
		for range 3 {
			if at, v := w.x.At(); at != 0 || v != 0 {
				t.Fatalf("%s: At %d, %d ahead of all", k.name, at, v)
			}
			if err := w.x.Err(); err != nil {
				t.Fatalf("%s: Err %v ahead of all", k.name, err)
			}
			if n := w.x.Checked(); n != 0 {
				t.Fatalf("%s: Checked %d ahead of all", k.name, n)
			}
		}
		w.through(t)
	}
}

// Next goes through all samples of the longest good beginning, and is at the end then, for good, with the error.
func TestNext(t *testing.T) {
	for _, k := range every(t) {
		x := fresh(t, k.name, k.b)
		for i, s := range k.list {
			if !x.Next() {
				t.Fatalf("%s: the %d-th Next is false, %v", k.name, i, x.Err())
			}
			if at, v := x.At(); at != s.T || v != s.V || x.Err() != nil {
				t.Fatalf("%s: the %d-th Next: At %d, %d, Err %v; want %v", k.name, i, at, v, x.Err(), s)
			}
		}
		for range 4 {
			ok := x.Next()
			if at, v := x.At(); ok || at != 0 || v != 0 || !isCode(x.Err(), k.code) || x.Checked() != k.most {
				t.Fatalf("%s: Next at the end: %t, At %d, %d, Err %v, Checked %d; want %v, %d", k.name, ok, at, v, x.Err(), x.Checked(), k.code, k.most)
			}
		}
		k.begin(t).through(t)
	}
}

// All goes on alike, if nobody asks where the iterator stands.
func TestNobodyAsks(t *testing.T) {
	for _, k := range every(t) {
		x, y := fresh(t, k.name, k.b), fresh(t, k.name, k.b)
		for i := range k.list {
			x.Next()
			y.SeekTo(k.list[i].T)
		}
		for _, x := range []*jump.Iterator{x, y} {
			if n := len(k.list); n > 0 {
				if at, v := x.At(); at != k.list[n-1].T || v != k.list[n-1].V || x.Err() != nil {
					t.Fatalf("%s: At %d, %d, Err %v; want %v", k.name, at, v, x.Err(), k.list[n-1])
				}
			}
			if ok := x.Next(); ok || !isCode(x.Err(), k.code) || x.Checked() != k.most {
				t.Fatalf("%s: %t, Err %v, Checked %d; want %v, %d", k.name, ok, x.Err(), x.Checked(), k.code, k.most)
			}
		}
	}
}

// someOf tells some of many times, and always the ends.
func someOf(times []int64, start, step int) []int64 {
	l := []int64{least, greatest}
	for i := start % step; i < len(times); i += step {
		l = append(l, times[i])
	}
	return l
}

// From ahead of all, from each sample, and from the end, SeekTo tells of each time where the iterator stands, if that is enough, or the first sample behind it, or the end; and Next goes on from there.
func TestSeekFromEach(t *testing.T) {
	for i, k := range every(t) {
		times, a := k.times(), k.begin(t).a
		for from := -1; from <= len(k.list); from++ {
			step := 1
			if len(k.list) > 9 {
				step = 7
			}
			for _, to := range someOf(times, i+from+1, step) {
				w := start(t, k.name, k.b, a)
				for range from + 1 {
					w.next(t)
				}
				if w.seek(t, to) {
					w.seek(t, to)
				}
				w.next(t)
			}
		}
	}
}

// Where an iterator stands, it stays by SeekTo of its own time, and of all below.
func TestSeekStays(t *testing.T) {
	for _, k := range every(t) {
		w := k.begin(t)
		times := k.times()
		for i, s := range k.list {
			w.next(t)
			for _, to := range times {
				if to <= s.T && (!w.seek(t, to) || w.a.at != i) {
					t.Fatalf("%s: SeekTo(%d) doesn't stay at %v", k.name, to, s)
				}
			}
		}
	}
}

// Times that rise are sought one behind the other by one iterator, to the end.
func TestSeekOn(t *testing.T) {
	for _, k := range every(t) {
		times := k.times()
		for step := 1; step < 12; step += 3 {
			w := k.begin(t)
			for i := step / 2; i < len(times); i += step {
				w.seek(t, times[i])
			}
			w.through(t)
		}
	}
}

// From ahead of all each sample is found by its time, and by each that is above that of the one ahead of it.
func TestSeekFinds(t *testing.T) {
	for _, k := range every(t) {
		for i, s := range k.list {
			above := int64(least)
			if i > 0 {
				above = k.list[i-1].T + 1
			}
			for _, to := range []int64{above, s.T, s.T - int64(uint64(s.T-above)/2)} {
				x := fresh(t, k.name, k.b)
				ok := x.SeekTo(to)
				if at, v := x.At(); !ok || at != s.T || v != s.V || x.Err() != nil {
					t.Fatalf("%s: SeekTo(%d): %t, At %d, %d, Err %v; want %v", k.name, to, ok, at, v, x.Err(), s)
				}
			}
		}
	}
}

// Of times that stand only behind the first chunk that isn't good none is found, good as their own chunk may be: the iterator is at its end, with the error.
func TestSeekBehindTheGood(t *testing.T) {
	seen := map[api.Code]int{}
	for _, k := range bads(t) {
		for _, s := range k.all[len(k.list):] {
			for from := range len(k.list) + 1 {
				x := fresh(t, k.name, k.b)
				for range from {
					x.Next()
				}
				ok := x.SeekTo(s.T)
				if at, v := x.At(); ok || at != 0 || v != 0 || !isCode(x.Err(), k.code) || x.Checked() != k.most {
					t.Fatalf("%s: SeekTo(%d): %t, At %d, %d, Err %v, Checked %d; want %v, %d", k.name, s.T, ok, at, v, x.Err(), x.Checked(), k.code, k.most)
				}
				seen[k.code]++
				if x.SeekTo(least) || x.Next() || !isCode(x.Err(), k.code) || x.Checked() != k.most {
					t.Fatalf("%s: it goes on behind its end, %v, Checked %d", k.name, x.Err(), x.Checked())
				}
			}
		}
	}
	for _, code := range []api.Code{api.ErrSum, api.ErrShort, api.ErrForm, api.ErrOrder, api.ErrIndex} {
		if seen[code] < 100 {
			t.Errorf("%v only %d times", code, seen[code])
		}
	}
}

// At its end an iterator answers false, by either way, whatever is called, and its error stays.
func TestTheEndIsForGood(t *testing.T) {
	for _, k := range every(t) {
		times := k.times()
		ends := []*walker{k.begin(t), k.begin(t)}
		for ends[0].next(t) {
		}
		ends[1].seek(t, greatest)
		for ends[1].next(t) {
		}
		for _, w := range ends {
			for i, to := range times {
				if w.seek(t, to) || i%3 == 0 && w.next(t) || !isCode(w.x.Err(), k.code) {
					t.Fatalf("%s: it goes on behind its end", k.name)
				}
			}
		}
	}
}

// Each kind of error is told, of each of which there may be one, by the tests' own bytes.
func TestOfEachError(t *testing.T) {
	alone, behind := map[api.Code]int{}, map[api.Code]int{}
	for _, k := range every(t) {
		if len(k.list) > 0 {
			behind[k.code]++
		} else {
			alone[k.code]++
		}
	}
	for _, code := range []api.Code{api.ErrMagic, api.ErrShort, api.ErrKind, api.ErrForm, api.ErrLarge, api.ErrSum, api.ErrIndex, api.ErrOrder} {
		if alone[code] == 0 {
			t.Errorf("%v is told of no bytes", code)
		}
	}
	for _, code := range []api.Code{api.ErrSum, api.ErrShort, api.ErrForm, api.ErrOrder, api.ErrIndex} {
		if behind[code] == 0 {
			t.Errorf("%v is told behind no samples", code)
		}
	}
}

// some tells few blocks of both kinds, for tests of each of their bytes.
func some(t *testing.T) []block {
	t.Helper()
	var l []block
	for _, list := range [][]api.Sample{nil, timed(-1), timed(least, greatest), even(-3000, 7, 1000), even(-16, 33, 1), walk(3, 12)} {
		for _, size := range []int{1, 3, 32, 100} {
			for _, kind := range bothKinds() {
				name := fmt.Sprintf("%s of kind %d by %d", short(list), kind, size)
				l = append(l, block{name, packed(t, kind, list, size), list, 0, by(len(list), size), list})
			}
		}
	}
	return l
}

// soon seeks some times of a list, and goes on to the end.
func (w *walker) soon(t *testing.T, list []api.Sample, by int) {
	t.Helper()
	if n := len(list); n > 0 {
		w.seek(t, list[by%n].T-int64(by%2))
		w.next(t)
		w.seek(t, list[(by%n+n)/2].T)
		w.seek(t, list[n-1].T)
	}
	w.through(t)
}

// Blocks that are cut off at any place, or have bytes behind them, tell none of their samples.
func TestCutOffAndLonger(t *testing.T) {
	for _, k := range some(t) {
		_, n, err := index.Get(k.b)
		if err != nil {
			t.Fatal(err)
		}
		for size := range k.b {
			code := api.Code(api.ErrIndex)
			if size < n {
				code = api.ErrShort
			}
			if size < 4 {
				code = api.ErrMagic
			}
			block{k.name, k.b[:size], nil, code, 0, k.all}.begin(t).soon(t, k.all, size)
			block{k.name, slices.Clip(k.b[:size]), nil, code, 0, k.all}.begin(t).through(t)
		}
		for _, more := range [][]byte{{0}, {255}, make([]byte, 4), make([]byte, 300), k.b, k.b[n-4:]} {
			block{k.name, slices.Concat(k.b, more), nil, api.ErrIndex, 0, k.all}.begin(t).soon(t, k.all, len(more))
		}
	}
}

// Blocks, each of whose bytes is turned: in a chunk, this tells the samples of the chunks ahead of it, and ErrSum; in the index, what layer 14 tells.
func TestOfEachByteTurned(t *testing.T) {
	for _, k := range some(t) {
		h, n, err := index.Get(k.b)
		if err != nil {
			t.Fatal(err)
		}
		for at := range n {
			for _, by := range []byte{1, 2, 128, 255, 1 << (at % 8), byte(37*at) | 4} {
				bad := turned(k.b, at, by)
				_, _, err := index.Get(bad)
				if err == nil {
					t.Fatalf("%s: byte %d turned by %d isn't seen", k.name, at, by)
				}
				block{k.name, bad, nil, codeOf(err), 0, k.all}.begin(t).soon(t, k.all, at)
			}
		}
		ahead := 0
		for i, e := range h.List {
			for at := n; at < n+e.Len; at++ {
				for _, by := range []byte{1 << (at % 8), byte(37*at) | 4, 255} {
					block{k.name, turned(k.b, at, by), k.list[:ahead], api.ErrSum, i + 1, k.all}.begin(t).soon(t, k.all, at)
				}
			}
			n, ahead = n+e.Len, ahead+e.Count
		}
	}
}

// askedOf tells a time to seek, mostly near the samples of a list.
func askedOf(next func() uint64, list []api.Sample, from int) int64 {
	if len(list) == 0 || next()%8 == 0 {
		return int64(next()) >> (next() % 64)
	}
	i := int(next()>>1) % len(list)
	if next()%2 == 0 {
		i = min(max(from, 0)+int(next()%4), len(list)-1)
	}
	switch next() % 8 {
	case 0:
		return edgeTimes()[next()%19]
	case 1:
		return list[i].T + int64(next()%2000) - 1000
	default:
		return list[i].T + int64(next()%3) - 1
	}
}

// anyCalls calls two iterators of bytes alike, in any order: the one is held behind each call, the other answers for itself alone.
func anyCalls(t *testing.T, next func() uint64, w *walker, other *jump.Iterator, list []api.Sample, calls int) {
	t.Helper()
	for range calls {
		at, checked := w.a.at, w.x.Checked()
		ok, same := true, true
		switch next() % 9 {
		case 0, 1:
			same, ok = w.next(t), other.Next()
		case 2, 3, 4:
			to := askedOf(next, list, at)
			same, ok = w.seek(t, to), other.SeekTo(to)
		case 5, 6:
			x, v := other.At()
			s := w.a.look()
			ok = x == s.T && v == s.V
		case 7:
			ok = other.Checked() == w.a.checked()
		default:
			ok = isCode(other.Err(), w.a.err())
		}
		if ok != same {
			t.Fatalf("%s: two iterators answer unlike, the first at %d", w.name, at)
		}
		if w.a.at < at || w.x.Checked() < checked {
			t.Fatalf("%s: it goes back", w.name)
		}
	}
}

// Any calls of Next, SeekTo, At and Err, in any order, of blocks that are good, of such as are not, and of bytes that are none.
func TestOfAnyCalls(t *testing.T) {
	next := mixer(1)
	for _, k := range every(t) {
		for range 6 {
			anyCalls(t, next, k.begin(t), fresh(t, k.name, k.b), k.all, 5+int(next()%40))
		}
	}
}

// So of any lists by any sizes, of which bytes may be turned, cut out or put in.
func TestOfAnyBlocks(t *testing.T) {
	seen, stood := map[api.Code]int{}, 0
	for start := range uint64(5000) {
		next := mixer(start)
		list := walk(start, int(next()%40))
		b := packed(t, 1+int(next()%2), list, 1+int(next()%12))
		for range next() % 3 {
			at := int(next()>>1) % len(b)
			switch next() % 6 {
			case 0:
				b = b[:at+1]
			case 1:
				b = slices.Insert(b, at, byte(next()))
			default:
				b[at] ^= 1 << (next() % 8)
			}
		}
		w := of(t, b)
		anyCalls(t, next, w, fresh(t, w.name, b), list, 30)
		seen[w.a.code]++
		if len(w.a.list) > 0 && w.a.code != 0 {
			stood++
		}
		w.through(t)
	}
	for _, code := range []api.Code{0, api.ErrMagic, api.ErrShort, api.ErrKind, api.ErrSum, api.ErrIndex} {
		if seen[code] < 20 {
			t.Errorf("%d only %d times", int(code), seen[code])
		}
	}
	if stood < 300 {
		t.Errorf("only %d with some samples and an error", stood)
	}
}

// So of several chunks, any of which are not good, for several reasons.
func TestOfAnyChunks(t *testing.T) {
	for start := range uint64(2000) {
		next := mixer(start)
		kind := 1 + int(next()%2)
		var pieces []piece
		var list, told []api.Sample
		var code api.Code
		most := 0
		for i := range next() % 7 {
			part := even(int64(i)*1_000_000-2_000_000, 2+int(next()%6), 1000)
			p := good(t, kind, part)
			if code == 0 {
				most++
			}
			if next()%6 == 0 {
				s := spoils()[next()%uint64(len(spoils()))]
				p = s.change(p)
				if code == 0 {
					code = s.code
				}
			}
			if code == 0 {
				told = append(told, part...)
			}
			pieces, list = append(pieces, p), append(list, part...)
		}
		b := laid(t, kind, pieces...)
		w := block{brief(b), b, told, code, most, list}.begin(t)
		anyCalls(t, next, w, fresh(t, w.name, b), list, 40)
	}
}

// So of any bytes, some of which begin like a block.
func TestOfAnyBytes(t *testing.T) {
	for start := range uint64(4000) {
		next := mixer(start)
		b := make([]byte, next()%60)
		for i := range b {
			b[i] = byte(next() & next())
		}
		if start%2 == 0 {
			b = append([]byte{71, 84, 83, 49, byte(next() % 4), byte(next() % 3)}, b...)
		}
		if start%4 == 0 {
			b = summed(b)
		}
		w := of(t, b)
		anyCalls(t, next, w, fresh(t, w.name, b), nil, 12)
		w.through(t)
	}
}

// Checked is 0 ahead of all; where the iterator stands, it counts the chunks up to that one; at the end all, of which the last may not be good; and it stays, as long as the iterator stays in its chunk, or at its end.
func TestChecked(t *testing.T) {
	for _, kind := range bothKinds() {
		for _, c := range []struct{ n, size int }{{1, 1}, {2, 1}, {9, 1}, {2, 2}, {9, 2}, {33, 7}, {33, 32}, {33, 33}, {33, 34}, {70, 33}} {
			list := even(-int64(c.n)*50, c.n, 100)
			b := packed(t, kind, list, c.size)
			for from := range list {
				for to := from; to <= c.n; to++ {
					x := fresh(t, brief(b), b)
					x.SeekTo(list[from].T)
					sees(t, x, from/c.size+1)
					x.SeekTo(list[from].T - 1)
					sees(t, x, from/c.size+1)
					x.SeekTo(list[0].T + int64(to)*100)
					if to == c.n {
						sees(t, x, by(c.n, c.size))
						continue
					}
					sees(t, x, to/c.size+1)
					x.SeekTo(least)
					sees(t, x, to/c.size+1)
					ok := x.Next()
					want := by(c.n, c.size)
					if ok {
						want = (to+1)/c.size + 1
					}
					sees(t, x, want)
				}
			}
		}
	}
}

// sees fails the test, if Checked tells another number, however often it is asked for.
func sees(t *testing.T, x *jump.Iterator, want int) {
	t.Helper()
	for range 3 {
		if n := x.Checked(); n != want {
			t.Fatalf("Checked %d, want %d", n, want)
		}
		x.At()
		x.Err()
	}
}

// spent tells how many bytes of memory a call took.
func spent(call func()) uint64 {
	var before, behind runtime.MemStats
	runtime.ReadMemStats(&before)
	call()
	runtime.ReadMemStats(&behind)
	return behind.TotalAlloc - before.TotalAlloc
}

// No chunk is decoded twice, and none ahead of need: that takes memory for its samples, of which a call takes no more than what the chunks need that it goes to.
func TestNoneTwiceAndNoneAheadOfNeed(t *testing.T) {
	const size, chunks = 5000, 12
	for _, kind := range bothKinds() {
		list := even(0, size*chunks, 10)
		b := packed(t, kind, list, size)
		part := good(t, kind, list[:size]).b
		one := spent(func() { quick.Decode(kind, part[:len(part)-4], size) })
		var x *jump.Iterator
		stands := 0
		// takes fails the test, if a call takes much more than the chunks up to this one need.
		takes := func(name string, up int, call func()) {
			t.Helper()
			got, most := spent(call), uint64(up-stands)*one+one/2
			if got > most || x.Checked() != up {
				t.Fatalf("kind %d: %s takes %d bytes of memory, and Checked is %d; want at most %d, %d", kind, name, got, x.Checked(), most, up)
			}
			stands = up
		}
		begin := func() {
			stands = 0
			takes("New", 0, func() { x = jump.New(b) })
			takes("At, Err", 0, func() { x.At(); x.Err() })
		}
		begin()
		for i := range list {
			if i%size < 2 || i%size == size-1 {
				takes("Next", i/size+1, func() { x.Next() })
				takes("SeekTo of where it stands", i/size+1, func() { x.SeekTo(int64(i) * 10) })
			} else {
				x.Next()
			}
		}
		takes("Next at the last sample", chunks, func() { x.Next() })
		takes("Next at the end", chunks, func() { x.Next(); x.SeekTo(0); x.Err() })
		begin()
		for _, i := range []int{0, 1, size - 1, size, 3*size - 1, 3 * size, 3*size + 9, 7 * size, 12*size - 1} {
			takes("SeekTo", i/size+1, func() { x.SeekTo(int64(i)*10 - 5) })
			takes("At, Err", i/size+1, func() { x.At(); x.Err() })
			takes("SeekTo of what is behind", i/size+1, func() { x.SeekTo(least) })
		}
		takes("SeekTo beyond all", chunks, func() { x.SeekTo(greatest) })
		begin()
		takes("SeekTo beyond all from ahead of all", chunks, func() { x.SeekTo(greatest) })
		takes("SeekTo at the end", chunks, func() { x.SeekTo(greatest); x.Next() })
		b[len(b)-1] ^= 1
		begin()
		takes("SeekTo of the chunk that isn't good", chunks, func() { x.SeekTo(size * (chunks - 1) * 10) })
		takes("SeekTo at the end, with an error", chunks, func() { x.SeekTo(greatest); x.Next() })
	}
}

// What was packed is told in order, by any size, and what stands at the first time from a place on is found: many samples, and leaps across chunks.
func TestOfManySamples(t *testing.T) {
	for _, c := range []struct{ n, size int }{{100_003, 1000}, {65535, 1}, {2*65535 + 9, 65535}, {20_000, 33}, {3000, 3000}} {
		for _, kind := range bothKinds() {
			list := walk(uint64(c.n), c.n)
			b := packed(t, kind, list, c.size)
			x := fresh(t, brief(b), b)
			for i, s := range list {
				ok := x.Next()
				if at, v := x.At(); !ok || at != s.T || v != s.V || x.Err() != nil || x.Checked() != i/c.size+1 {
					t.Fatalf("%d by %d: the %d-th Next: %t, At %d, %d, Err %v, Checked %d; want %v", c.n, c.size, i, ok, at, v, x.Err(), x.Checked(), s)
				}
			}
			for range 3 {
				goesOn := x.Next() || x.SeekTo(least) || x.SeekTo(greatest)
				if at, v := x.At(); goesOn || at != 0 || v != 0 || x.Err() != nil || x.Checked() != by(c.n, c.size) {
					t.Fatalf("%d by %d: at its end: %t, At %d, %d, Err %v, Checked %d", c.n, c.size, goesOn, at, v, x.Err(), x.Checked())
				}
			}
			for _, leap := range []int{1, 31, c.size, c.size + 1, 3*c.size - 1, c.n - 1} {
				leaps(t, b, list, c.size, leap)
			}
		}
	}
}

// leaps seeks, from ahead of all on, each so many samples behind the last one, and at last beyond all.
func leaps(t *testing.T, b []byte, list []api.Sample, size, leap int) {
	t.Helper()
	x := fresh(t, brief(b), b)
	for i := leap - 1; i < len(list); i += leap {
		above := int64(least)
		if i > 0 {
			above = list[i-1].T + 1
		}
		to := above + int64(uint64(list[i].T-above)/uint64(1+i%3))
		for _, to := range []int64{to, list[i].T, above, least} {
			ok := x.SeekTo(to)
			if at, v := x.At(); !ok || at != list[i].T || v != list[i].V || x.Err() != nil || x.Checked() != i/size+1 {
				t.Fatalf("%s, SeekTo(%d): %t, At %d, %d, Err %v, Checked %d; want %v", short(list), to, ok, at, v, x.Err(), x.Checked(), list[i])
			}
		}
	}
	last := list[len(list)-1].T
	if last == greatest {
		return
	}
	ok := x.SeekTo(last + 1)
	if at, v := x.At(); ok || at != 0 || v != 0 || x.Err() != nil || x.Checked() != by(len(list), size) {
		t.Fatalf("%s, SeekTo beyond all: %t, At %d, %d, Err %v, Checked %d", short(list), ok, at, v, x.Err(), x.Checked())
	}
}

// A chunk that isn't good far behind many that are ends these.
func TestOfManyChunksBeforeTheBad(t *testing.T) {
	list := walk(4, 40_000)
	for _, size := range []int{1, 100} {
		b := packed(t, api.Ints, list, size)
		h, n, err := index.Get(b)
		if err != nil {
			t.Fatal(err)
		}
		ahead := 0
		for _, e := range h.List[:len(h.List)*3/4] {
			n, ahead = n+e.Len, ahead+e.Count
		}
		w := block{brief(b), turned(b, n, 16), list[:ahead], api.ErrSum, len(h.List)*3/4 + 1, list}.begin(t)
		for i := 0; i < len(list); i += 777 {
			w.seek(t, list[i].T)
		}
		w.through(t)
	}
}

// iterator is one that tells of its chunks, too.
type iterator interface {
	api.Iterator
	Checked() int
}

// do calls all of an iterator's calls, to its end, and tells all that it answers.
func do(x iterator, list []api.Sample) []string {
	var l []string
	tell := func(ok bool) {
		at, v := x.At()
		l = append(l, fmt.Sprint(ok, at, v, x.Err(), x.Checked()))
	}
	tell(true)
	for i, s := range list {
		switch i % 3 {
		case 0:
			tell(x.Next())
		case 1:
			tell(x.SeekTo(s.T))
		default:
			tell(x.SeekTo(s.T - 1))
		}
	}
	for _, to := range []int64{least, 0, greatest} {
		tell(x.SeekTo(to))
		tell(x.Next())
	}
	return l
}

// The bytes stand as they were behind New and behind each call, and so does what stands around them in the same memory: this is nothing to the answers, either.
func TestTheBytesStayAsTheyWere(t *testing.T) {
	for _, k := range every(t) {
		want := do(fresh(t, k.name, slices.Clip(bytes.Clone(k.b))), k.all)
		for _, around := range []byte{0, 255, 0x5a} {
			room := bytes.Repeat([]byte{around}, 30)
			memory := slices.Concat(room, k.b, room)
			before := bytes.Clone(memory)
			x := fresh(t, k.name, memory[30:30+len(k.b)])
			if !bytes.Equal(memory, before) {
				t.Fatalf("%s: New changed the bytes", k.name)
			}
			if !slices.Equal(do(guarded{t, x, memory, before}, k.all), want) {
				t.Fatalf("%s: what is around the bytes changes the answers", k.name)
			}
		}
	}
}

// guarded is an iterator, behind each of whose calls the memory must be as it was.
type guarded struct {
	t              *testing.T
	x              iterator
	memory, before []byte
}

func (g guarded) hold(name string) {
	g.t.Helper()
	if !bytes.Equal(g.memory, g.before) {
		g.t.Fatalf("%s changed the bytes", name)
	}
}

func (g guarded) Next() bool {
	defer g.hold("Next")
	return g.x.Next()
}

func (g guarded) SeekTo(t int64) bool {
	defer g.hold("SeekTo")
	return g.x.SeekTo(t)
}

func (g guarded) At() (int64, uint64) {
	defer g.hold("At")
	return g.x.At()
}

func (g guarded) Err() error {
	defer g.hold("Err")
	return g.x.Err()
}

func (g guarded) Checked() int {
	defer g.hold("Checked")
	return g.x.Checked()
}

// Iterators of the same bytes go on each by itself, wherever the others stand.
func TestIteratorsAreApart(t *testing.T) {
	next := mixer(8)
	for _, k := range every(t) {
		var pool []*walker
		for range 3 {
			pool = append(pool, k.begin(t))
		}
		for i := range 40 {
			w := pool[next()%uint64(len(pool))]
			if next()%2 == 0 {
				w.next(t)
			} else {
				w.seek(t, askedOf(next, k.all, w.a.at))
			}
			for _, w := range pool {
				w.hold(t, "nothing", true, true, true)
			}
			if i == 20 {
				pool = append(pool, k.begin(t))
			}
		}
	}
}

// So do iterators of unlike bytes.
func TestIteratorsOfUnlikeBytesAreApart(t *testing.T) {
	next := mixer(9)
	blocks := every(t)
	for range 100 {
		var pool []*walker
		var lists [][]api.Sample
		for range 6 {
			k := blocks[next()%uint64(len(blocks))]
			pool, lists = append(pool, k.begin(t)), append(lists, k.all)
		}
		for range 60 {
			i := next() % 6
			if w := pool[i]; next()%2 == 0 {
				w.next(t)
			} else {
				w.seek(t, askedOf(next, lists[i], w.a.at))
			}
			pool[next()%6].hold(t, "nothing", true, true, true)
		}
	}
}

// Iterators of the same bytes that go on at the same time know nothing of each other.
func TestAtTheSameTime(t *testing.T) {
	var wg sync.WaitGroup
	for _, kind := range bothKinds() {
		list := walk(7, 300)
		b := packed(t, kind, list, 40)
		want := do(fresh(t, brief(b), b), list)
		for range 4 {
			wg.Go(func() {
				for range 30 {
					if got := do(jump.New(b), list); !slices.Equal(got, want) {
						t.Errorf("kind %d: %v; want %v", kind, got, want)
						return
					}
				}
			})
		}
	}
	wg.Wait()
}
