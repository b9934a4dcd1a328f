package seq_test

import (
	"bytes"
	"encoding/binary"
	"fmt"
	"hash/crc32"
	"math"
	"runtime"
	"slices"
	"sync"
	"testing"

	"gaiter/api"
	"gaiter/chunk"
	"gaiter/index"
	"gaiter/jump"
	"gaiter/pack"
	"gaiter/scan"
	"gaiter/seq"
	"gaiter/whole"
)

// The tests hold what is told, and where the iterator stands then, against answers written out, and against a plain account of P20.1's words over samples that the tests lay themselves; all of it by iterators of both layers, 18 and 19.

const (
	least    = math.MinInt64
	greatest = math.MaxInt64
	all      = uint64(math.MaxUint64)
	half     = uint64(1) << 63
	mixed    = uint64(0x0123456789abcdef)
)

// way is a layer that makes iterators.
type way struct {
	name string
	of   func(b []byte) api.Iterator
}

func bothWays() []way {
	return []way{
		{"scan", func(b []byte) api.Iterator { return scan.New(b) }},
		{"jump", func(b []byte) api.Iterator { return jump.New(b) }},
	}
}

// account is what the document's words say of an iterator over the samples of the longest good beginning, and the error behind them; and of the chunks that layer 19's decodes.
type account struct {
	list []api.Sample
	code api.Code
	at   int   // -1 ahead of all, and how many samples there are at the end
	ends []int // of each good chunk, how many samples there are up to its last one
	most int   // how many chunks were decoded at the end
}

// take tells the samples behind the one at which it stands, up to most.
func (a *account) take(most int) []api.Sample {
	if most < 1 {
		return nil
	}
	rest := a.list[min(a.at+1, len(a.list)):]
	if len(rest) < most {
		a.at = len(a.list)
		return rest
	}
	a.at += most
	return rest[:most]
}

// seek goes to the first sample whose time is t at least, from where it stands on.
func (a *account) seek(t int64) bool {
	for a.at < 0 || a.at < len(a.list) && a.list[a.at].T < t {
		a.at++
	}
	return a.at < len(a.list)
}

// between tells the samples from the first one that is sought up to the second one.
func (a *account) between(from, to int64) []api.Sample {
	if !a.seek(from) {
		return nil
	}
	first := a.at
	a.seek(to)
	return a.list[first:a.at]
}

func (a *account) look() api.Sample {
	if a.at < 0 || a.at == len(a.list) {
		return api.Sample{}
	}
	return a.list[a.at]
}

func (a *account) err() api.Code {
	if a.at < len(a.list) {
		return 0
	}
	return a.code
}

func (a *account) checked() int {
	if a.at < 0 {
		return 0
	}
	if i, _ := slices.BinarySearch(a.ends, a.at+1); i < len(a.ends) {
		return i + 1
	}
	return a.most
}

// accountOf tells the account of bytes that must tell these samples, and this error; 0 is none.
func accountOf(b []byte, list []api.Sample, code api.Code) account {
	a := account{list: list, code: code, at: -1}
	h, _, err := index.Get(b)
	if err != nil {
		return a
	}
	n := 0
	for _, e := range h.List {
		a.most++
		n += e.Count
		if n > len(list) {
			break
		}
		a.ends = append(a.ends, n)
	}
	return a
}

// walker is an iterator, and what it is held against.
type walker struct {
	name string
	x    api.Iterator
	a    account
}

// stands fails the test, if the iterator doesn't stand where the account does.
func (w *walker) stands(t *testing.T, call string) {
	t.Helper()
	at, v := w.x.At()
	if s := w.a.look(); at != s.T || v != s.V || !isCode(w.x.Err(), w.a.err()) {
		t.Fatalf("%s: %s: At %d, %d, Err %v; want %v, %d", w.name, call, at, v, w.x.Err(), s, int(w.a.err()))
	}
	if x, ok := w.x.(*jump.Iterator); ok && x.Checked() != w.a.checked() {
		t.Fatalf("%s: %s: Checked %d, want %d", w.name, call, x.Checked(), w.a.checked())
	}
}

// hold fails the test, if what a call told is other than the account's, or if the iterator doesn't stand where that does.
func (w *walker) hold(t *testing.T, call string, told, want []api.Sample) {
	t.Helper()
	if !slices.Equal(told, want) {
		t.Fatalf("%s: %s: %s; want %s", w.name, call, short(told), short(want))
	}
	w.stands(t, call)
}

// next calls Next, and holds its answer.
func (w *walker) next(t *testing.T) bool {
	t.Helper()
	ok := w.x.Next()
	if want := len(w.a.take(1)) > 0; ok != want {
		t.Fatalf("%s: Next: %t", w.name, ok)
	}
	w.stands(t, "Next")
	return ok
}

// seek calls SeekTo, and holds its answer.
func (w *walker) seek(t *testing.T, to int64) bool {
	t.Helper()
	ok := w.x.SeekTo(to)
	if want := w.a.seek(to); ok != want {
		t.Fatalf("%s: SeekTo(%d): %t", w.name, to, ok)
	}
	w.stands(t, fmt.Sprintf("SeekTo(%d)", to))
	return ok
}

// all ranges over All to the end, and holds what is told.
func (w *walker) all(t *testing.T) {
	t.Helper()
	w.hold(t, "All", ranged(w.x, 0), w.a.take(math.MaxInt))
}

// part ranges over All, and leaves the loop at the n-th sample.
func (w *walker) part(t *testing.T, n int) {
	t.Helper()
	w.hold(t, fmt.Sprintf("All, left at %d", n), ranged(w.x, n), w.a.take(n))
}

// collect calls Collect, and holds its answer.
func (w *walker) collect(t *testing.T, most int) {
	t.Helper()
	w.hold(t, fmt.Sprintf("Collect(%d)", most), seq.Collect(w.x, most), w.a.take(most))
}

// between calls Between, and holds its answer.
func (w *walker) between(t *testing.T, from, to int64) {
	t.Helper()
	w.hold(t, fmt.Sprintf("Between(%d, %d)", from, to), seq.Between(w.x, from, to), w.a.between(from, to))
}

// through goes on to the end, and somewhat beyond.
func (w *walker) through(t *testing.T) {
	t.Helper()
	for w.next(t) {
	}
	w.all(t)
	w.collect(t, 5)
	w.between(t, least, greatest)
	w.next(t)
}

// ranged tells what a range over All tells, up to the n-th sample, or all of it.
func ranged(x api.Iterator, n int) []api.Sample { return upTo(seq.All(x), n) }

// upTo tells what a range tells, whose loop is left at the n-th sample; 0: which isn't left.
func upTo(samples func(func(int64, uint64) bool), n int) []api.Sample {
	var l []api.Sample
	for at, v := range samples {
		l = append(l, api.Sample{T: at, V: v})
		if len(l) == n {
			break
		}
	}
	return l
}

// isCode tells whether an error is this one, the value itself; 0 is none.
func isCode(err error, want api.Code) bool {
	if err == nil {
		return want == 0
	}
	code, ok := err.(api.Code)
	return ok && want != 0 && code == want
}

// codeOf tells an error's number, or 0.
func codeOf(err error) api.Code {
	code, _ := err.(api.Code)
	return code
}

// short tells a list as far as a test's output needs it.
func short(list []api.Sample) string {
	return fmt.Sprintf("%d samples from %v", len(list), list[:min(4, len(list))])
}

// brief tells bytes as far as a test's output needs them.
func brief(b []byte) string { return fmt.Sprintf("%d bytes %v", len(b), b[:min(80, len(b))]) }

func bothKinds() []int { return []int{api.Xor, api.Ints} }

// mixer tells numbers that hang on a start alone, the lowest bits as mixed as the highest ones.
func mixer(start uint64) func() uint64 {
	v := start
	return func() uint64 {
		v = v*6364136223846793005 + 1442695040888963407
		x := v
		x ^= x >> 32
		x *= 0xd6e8feb86659fd93
		return x ^ x>>32
	}
}

// timed tells samples of these times; their values are 0, all bits 1, mixed ones, and such as stand twice.
func timed(times ...int64) []api.Sample {
	next := mixer(uint64(len(times)))
	list := make([]api.Sample, len(times))
	for i, x := range times {
		v := []uint64{mixed, 0, all, 1, half, uint64(x), next(), next()}[(i+len(times))%8]
		list[i] = api.Sample{T: x, V: v}
	}
	return list
}

// even tells n samples from a time on, so many apart.
func even(from int64, n int, step int64) []api.Sample {
	times := make([]int64, n)
	for i := range times {
		times[i] = from + int64(i)*step
	}
	return timed(times...)
}

// walk tells n samples of rising times, from anywhere on: steps of 1, small ones, and as great ones as n of them have room.
func walk(start uint64, n int) []api.Sample {
	next := mixer(start)
	room := all/uint64(n+1) - 1
	x := int64(half + next()%room)
	times := make([]int64, n)
	for i := range times {
		times[i] = x
		switch next() % 4 {
		case 0:
			x++
		case 1:
			x += 1 + int64(next()%9)
		default:
			x += int64(1 + next()>>(next()%64)%room)
		}
	}
	return timed(times...)
}

// edgeTimes tells times that rise, near the ends, around 0, and between.
func edgeTimes() []int64 {
	return []int64{least, least + 1, least + 64, -1 << 62, -1<<32 - 1, -1 << 32, -300, -2, -1, 0, 1, 2, 63, 128, 16384, 1 << 31, 1 << 62, greatest - 1, greatest}
}

// asked tells times to seek: the ends, those of the samples, one below and one above each, between them, and far from them.
func asked(list []api.Sample) []int64 {
	l := append(edgeTimes(), least+2, greatest-2, 1<<32, math.MaxInt32, math.MinInt32)
	for i, x := range list {
		l = append(l, x.T, x.T+1, x.T-1, ^x.T)
		if i > 0 {
			l = append(l, x.T-int64(uint64(x.T-list[i-1].T)/2))
		}
	}
	slices.Sort(l)
	return slices.Compact(l)
}

// packed tells samples' block.
func packed(t *testing.T, kind int, list []api.Sample, size int) []byte {
	t.Helper()
	b, err := pack.Pack(kind, list, size)
	if err != nil {
		t.Fatalf("%d, %s by %d: %v", kind, short(list), size, err)
	}
	return b
}

// summed tells bytes with their sum behind them, by the library.
func summed(body []byte) []byte {
	return binary.BigEndian.AppendUint32(bytes.Clone(body), crc32.ChecksumIEEE(body))
}

// piece is a chunk, and what an index tells of it.
type piece struct {
	e index.Entry
	b []byte
}

// good tells samples' chunk.
func good(t *testing.T, kind int, list []api.Sample) piece {
	t.Helper()
	body, err := chunk.Encode(kind, list)
	if err != nil {
		t.Fatalf("%d, %s: %v", kind, short(list), err)
	}
	return piece{index.Entry{Min: list[0].T, Max: list[len(list)-1].T, Count: len(list), Len: len(body) + 4}, summed(body)}
}

// laid tells the block of chunks.
func laid(t *testing.T, kind int, pieces ...piece) []byte {
	t.Helper()
	h := index.Head{Kind: kind}
	var rest []byte
	for _, p := range pieces {
		h.List = append(h.List, p.e)
		rest = append(rest, p.b...)
	}
	front, err := index.Put(h)
	if err != nil {
		t.Fatalf("%d, %v: %v", kind, h.List[:min(9, len(h.List))], err)
	}
	return append(front, rest...)
}

// block is bytes, the samples of their longest good beginning, the error behind these, and all samples that were laid in them.
type block struct {
	name string
	b    []byte
	list []api.Sample
	code api.Code
	all  []api.Sample
}

// begin tells walkers of both layers, ahead of all.
func (k block) begin(t *testing.T) []*walker {
	t.Helper()
	l, err := whole.Decode(k.b)
	if !isCode(err, k.code) || !slices.Equal(l, k.list) {
		t.Fatalf("%s: the test's own bytes tell %s, %v, not %s, %v", k.name, short(l), err, short(k.list), k.code)
	}
	return k.start(t, accountOf(k.b, k.list, k.code))
}

// start tells walkers of both layers, by an account.
func (k block) start(t *testing.T, a account) []*walker {
	t.Helper()
	var l []*walker
	for _, y := range bothWays() {
		l = append(l, k.by(t, y, a))
	}
	return l
}

// by tells a walker of one layer.
func (k block) by(t *testing.T, y way, a account) *walker {
	t.Helper()
	w := &walker{y.name + ", " + k.name, y.of(k.b), a}
	w.stands(t, "New")
	return w
}

// times tells times to ask for: those of the samples, and of the index, and one below and one above each of these, too.
func (k block) times() []int64 {
	l := asked(k.all)
	h, _, _ := index.Get(k.b)
	for _, e := range h.List {
		l = append(l, e.Min-1, e.Min, e.Min+1, e.Max-1, e.Max, e.Max+1)
	}
	slices.Sort(l)
	return slices.Compact(l)
}

// lists tells lists of samples whose times rise: none, one, few, and some more.
func lists() [][]api.Sample {
	l := [][]api.Sample{nil, timed(edgeTimes()...), timed(least, -1, 0, greatest), {{T: -1, V: all}, {T: 0}, {T: 1, V: all}}}
	for _, x := range []int64{least, -1, 0, 1, greatest} {
		l = append(l, timed(x), []api.Sample{{T: x}}, []api.Sample{{T: x, V: all}})
	}
	l = append(l, timed(least, greatest), timed(-1, 0), timed(0, 1))
	for _, n := range []int{2, 5, 33} {
		l = append(l, even(-int64(n)/2, n, 1), even(-1000*int64(n)/2, n, 1000), even(greatest-int64(n)+1, n, 1), even(least, n, 2), walk(uint64(n), n))
	}
	return l
}

// sizes tells how many of n samples a chunk has in the tests: 1, 2, some, as many as there are, and above.
func sizes(n int) []int {
	l := []int{1, 2, 3, 7, 32, max(n, 1), n + 1, api.MaxCount}
	slices.Sort(l)
	return slices.Compact(l)
}

// goods tells blocks that are good all through.
func goods(t *testing.T) []block {
	t.Helper()
	var l []block
	for _, list := range lists() {
		for _, size := range sizes(len(list)) {
			for _, kind := range bothKinds() {
				name := fmt.Sprintf("%s of kind %d by %d", short(list), kind, size)
				l = append(l, block{name, packed(t, kind, list, size), list, 0, list})
			}
		}
	}
	return l
}

// spoil makes a good chunk of two samples or more one that isn't good, and this is its error.
type spoil struct {
	name   string
	change func(p piece) piece
	code   api.Code
}

// spoils tells reasons why a chunk isn't good; but for those that are the sum, the sum is laid anew.
func spoils() []spoil {
	var l []spoil
	// body changes the bytes ahead of the sum.
	body := func(name string, code api.Code, change func(b []byte) []byte) {
		l = append(l, spoil{name, func(p piece) piece {
			p.b = summed(change(bytes.Clone(p.b[:len(p.b)-4])))
			p.e.Len = len(p.b)
			return p
		}, code})
	}
	// turned turns a bit of the chunk; from below 0 on it is counted from behind.
	turned := func(at int) {
		l = append(l, spoil{fmt.Sprintf("byte %d turned", at), func(p piece) piece {
			p.b = bytes.Clone(p.b)
			p.b[(at+len(p.b))%len(p.b)] ^= 1 << (uint(at) % 8)
			return p
		}, api.ErrSum})
	}
	// entry changes what the index tells.
	entry := func(name string, code api.Code, change func(e *index.Entry)) {
		l = append(l, spoil{name, func(p piece) piece {
			change(&p.e)
			return p
		}, code})
	}
	turned(0)
	turned(15)
	turned(16)
	turned(-1)
	turned(-5)
	body("no bytes", api.ErrShort, func(b []byte) []byte { return nil })
	body("cut off", api.ErrShort, func(b []byte) []byte { return b[:len(b)-1] })
	body("one sample", api.ErrShort, func(b []byte) []byte { return b[:16] })
	body("a byte behind", api.ErrForm, func(b []byte) []byte { return append(b, 0) })
	body("a code that is too long", api.ErrForm, func(b []byte) []byte { return append(b[:16], 128, 0, 0, 0, 0, 0, 0) })
	body("a time that stands", api.ErrOrder, func(b []byte) []byte { return append(b[:16], make([]byte, 60)...) })
	body("a time that goes back", api.ErrOrder, func(b []byte) []byte { return append(b[:16], 191, 128, 0, 0, 0, 0, 0) })
	entry("Count above", api.ErrShort, func(e *index.Entry) { e.Count = 65535 })
	entry("Count below", api.ErrForm, func(e *index.Entry) { e.Count = 1 })
	entry("Min below", api.ErrIndex, func(e *index.Entry) { e.Min-- })
	entry("Max above", api.ErrIndex, func(e *index.Entry) { e.Max++ })
	entry("Min above", api.ErrIndex, func(e *index.Entry) { e.Min++ })
	entry("Max below", api.ErrIndex, func(e *index.Entry) { e.Max-- })
	// both spoils twice: what comes first in layer 16's words is told.
	both := func(a, b int, code api.Code) {
		x, y := l[a], l[b]
		l = append(l, spoil{x.name + ", and " + y.name, func(p piece) piece { return y.change(x.change(p)) }, code})
	}
	both(7, 2, api.ErrSum)     // cut off, and a byte turned
	both(0, 14, api.ErrSum)    // a byte turned, and Min
	both(3, 12, api.ErrSum)    // a byte of the sum, and Count
	both(6, 15, api.ErrShort)  // cut off, and Max
	both(8, 14, api.ErrForm)   // a byte behind, and Min
	both(13, 17, api.ErrForm)  // Count, and Max
	both(11, 16, api.ErrOrder) // a time, and Min
	return l
}

// spoilt tells a block of both kinds for each reason and each of its chunks that isn't good: of these each is of 2 samples or more, and far from the next one.
func spoilt(t *testing.T, counts ...int) []block {
	t.Helper()
	var l []block
	for _, kind := range bothKinds() {
		var pieces []piece
		var all []api.Sample
		begins := []int{0}
		for i, n := range counts {
			list := even(1_000_000*int64(i-1)-7, n, 1000)
			pieces, all = append(pieces, good(t, kind, list)), append(all, list...)
			begins = append(begins, len(all))
		}
		for i := range pieces {
			for _, s := range spoils() {
				bad := slices.Clone(pieces)
				bad[i] = s.change(bad[i])
				name := fmt.Sprintf("kind %d, chunk %d of %v: %s", kind, i, counts, s.name)
				l = append(l, block{name, laid(t, kind, bad...), all[:begins[i]], s.code, all})
			}
		}
	}
	return l
}

// bads tells blocks of which a chunk isn't good.
func bads(t *testing.T) []block {
	t.Helper()
	return slices.Concat(spoilt(t, 2), spoilt(t, 3, 2), spoilt(t, 2, 5, 4), spoilt(t, 33, 2, 3, 9))
}

// none tells bytes that begin with no index, or with one that isn't that of what stands behind.
func none(t *testing.T) []block {
	t.Helper()
	l := []block{{"nil", nil, nil, api.ErrMagic, nil}, {"no bytes", []byte{}, nil, api.ErrMagic, nil}}
	for _, kind := range bothKinds() {
		list := even(-1000, 5, 500)
		b := packed(t, kind, list, 3)
		_, n, err := index.Get(b)
		if err != nil {
			t.Fatal(err)
		}
		front, rest := b[:n-4], b[n:]
		add := func(name string, code api.Code, b []byte) {
			l = append(l, block{fmt.Sprintf("kind %d: %s", kind, name), b, nil, code, list})
		}
		// anew lays the sum of the index anew, a byte of it being others.
		anew := func(at int, v ...byte) []byte {
			return slices.Concat(summed(slices.Replace(bytes.Clone(front), at, at+1, v...)), rest)
		}
		add("its first byte alone", api.ErrMagic, b[:1])
		add("without its first byte", api.ErrMagic, b[1:])
		add("another first byte", api.ErrMagic, anew(0, 70))
		add("another fourth byte", api.ErrMagic, anew(3, 50))
		add("the chunks alone", api.ErrMagic, rest)
		add("four bytes", api.ErrShort, b[:4])
		add("half an index", api.ErrShort, b[:n/2])
		add("an index but for a byte", api.ErrShort, b[:n-1])
		add("kind 0", api.ErrKind, anew(4, 0))
		add("kind 3", api.ErrKind, anew(4, 3))
		add("a number that is too long", api.ErrForm, anew(5, 130, 0))
		add("too many chunks", api.ErrLarge, anew(5, 128, 128, 4))
		add("another sum", api.ErrSum, slices.Concat(front, []byte{1, 2, 3, 4}, rest))
		add("Count 0", api.ErrIndex, anew(len(front)-2, 0))
		add("Len 3", api.ErrIndex, anew(len(front)-1, 3))
		add("an index alone", api.ErrIndex, b[:n])
		add("without its last byte", api.ErrIndex, b[:len(b)-1])
		add("a byte behind", api.ErrIndex, append(bytes.Clone(b), 0))
		add("another block behind", api.ErrIndex, slices.Concat(b, b))
	}
	return l
}

// every tells all these blocks.
func every(t *testing.T) []block {
	t.Helper()
	return slices.Concat(goods(t), bads(t), none(t))
}

// three is a block written out, of two chunks: {10 5} and {20 8}, and {30 11}.
func three() []byte {
	return []byte{71, 84, 83, 49, 2, 2,
		0, 0, 0, 0, 0, 0, 0, 10, 10, 2, 23,
		0, 0, 0, 0, 0, 0, 0, 30, 0, 1, 20,
		143, 179, 76, 35,
		0, 0, 0, 0, 0, 0, 0, 10, 0, 0, 0, 0, 0, 0, 0, 5,
		133, 64, 192,
		139, 2, 133, 226,
		0, 0, 0, 0, 0, 0, 0, 30, 0, 0, 0, 0, 0, 0, 0, 11,
		31, 107, 11, 62}
}

// wide is a block written out, of two chunks: {-2^63 and all bits} and {-1 7}, {0 7} and {2^63-1 0}.
func wide() []byte {
	return []byte{71, 84, 83, 49, 1, 2,
		128, 0, 0, 0, 0, 0, 0, 0, 255, 255, 255, 255, 255, 255, 255, 255, 127, 2, 38,
		0, 0, 0, 0, 0, 0, 0, 0, 255, 255, 255, 255, 255, 255, 255, 255, 127, 2, 31,
		124, 252, 166, 131,
		128, 0, 0, 0, 0, 0, 0, 0, 255, 255, 255, 255, 255, 255, 255, 255,
		247, 255, 255, 255, 255, 255, 255, 255, 252, 15, 63, 255, 255, 255, 255, 255, 255, 254,
		141, 138, 100, 53,
		0, 0, 0, 0, 0, 0, 0, 0, 0, 0, 0, 0, 0, 0, 0, 7,
		247, 255, 255, 255, 255, 255, 255, 255, 255, 208, 184,
		216, 208, 254, 167}
}

// turned tells bytes, of which one is turned by some bits.
func turned(b []byte, at int, by byte) []byte {
	b = bytes.Clone(b)
	b[at] ^= by
	return b
}

// someOf tells some of many times, and always the ends.
func someOf(times []int64, start, step int) []int64 {
	l := []int64{least, greatest}
	for i := start % step; i < len(times); i += step {
		l = append(l, times[i])
	}
	return l
}

// askedOf tells a time to seek, mostly near the samples of a list.
func askedOf(next func() uint64, list []api.Sample, from int) int64 {
	if len(list) == 0 || next()%8 == 0 {
		return int64(next()) >> (next() % 64)
	}
	i := int(next()>>1) % len(list)
	if next()%2 == 0 {
		i = min(max(from, 0)+int(next()%4), len(list)-1)
	}
	switch next() % 8 {
	case 0:
		return edgeTimes()[next()%19]
	case 1:
		return list[i].T + int64(next()%2000) - 1000
	default:
		return list[i].T + int64(next()%3) - 1
	}
}

// spent tells how many bytes of memory a call took.
func spent(call func()) uint64 {
	var before, behind runtime.MemStats
	runtime.ReadMemStats(&before)
	call()
	runtime.ReadMemStats(&behind)
	return behind.TotalAlloc - before.TotalAlloc
}

// call is one call of an iterator, what it tells, and where the iterator stands then.
type call struct {
	name string
	do   func(x api.Iterator) []api.Sample
	told []api.Sample
	at   api.Sample
	err  error
}

// The calls of the tests that are written out.
func anAll() call {
	return call{name: "All", do: func(x api.Iterator) []api.Sample { return ranged(x, 0) }}
}

func aPart(n int) call {
	return call{name: fmt.Sprint("All, left at ", n), do: func(x api.Iterator) []api.Sample { return ranged(x, n) }}
}

func aCollect(most int) call {
	return call{name: fmt.Sprint("Collect ", most), do: func(x api.Iterator) []api.Sample { return seq.Collect(x, most) }}
}

func aBetween(from, to int64) call {
	return call{name: fmt.Sprint("Between ", from, to), do: func(x api.Iterator) []api.Sample { return seq.Between(x, from, to) }}
}

func aNext() call {
	return call{name: "Next", do: func(x api.Iterator) []api.Sample { x.Next(); return nil }}
}

func aSeek(t int64) call {
	return call{name: fmt.Sprint("SeekTo ", t), do: func(x api.Iterator) []api.Sample { x.SeekTo(t); return nil }}
}

// tells is the call that tells these samples.
func (c call) tells(l ...api.Sample) call {
	c.told = l
	return c
}

// stand is the call behind which the iterator stands at this sample.
func (c call) stand(at api.Sample) call {
	c.at = at
	return c
}

// end is the call behind which the iterator is at its end, with this error.
func (c call) end(err error) call {
	c.err = err
	return c
}

// run is bytes, and calls of one iterator of them.
type run struct {
	b     []byte
	calls []call
}

// runs tells calls, and what is told then, written out.
func runs() []run {
	one, two, last := api.Sample{T: 10, V: 5}, api.Sample{T: 20, V: 8}, api.Sample{T: 30, V: 11}
	a, b, c, d := api.Sample{T: least, V: all}, api.Sample{T: -1, V: 7}, api.Sample{T: 0, V: 7}, api.Sample{T: greatest, V: 0}
	empty := []byte{71, 84, 83, 49, 1, 0, 139, 6, 236, 214}
	first, second := turned(three(), 32, 1), turned(three(), 60, 1)
	return []run{
		{nil, []call{aCollect(0), anAll().end(api.ErrMagic), aCollect(3).end(api.ErrMagic), aBetween(least, greatest).end(api.ErrMagic)}},
		{nil, []call{aBetween(0, 0).end(api.ErrMagic), anAll().end(api.ErrMagic)}},
		{[]byte{}, []call{aCollect(1).end(api.ErrMagic), aCollect(0).end(api.ErrMagic), anAll().end(api.ErrMagic)}},
		{empty, []call{aCollect(-1), anAll(), aCollect(1), aBetween(least, greatest)}},
		{empty[:9], []call{aPart(1).end(api.ErrShort), aCollect(1).end(api.ErrShort)}},
		{turned(three(), 4, 2), []call{aCollect(0), aBetween(10, 20).end(api.ErrKind), anAll().end(api.ErrKind)}},
		{three()[:len(three())-1], []call{aCollect(5).end(api.ErrIndex)}},
		{three(), []call{anAll().tells(one, two, last), anAll(), aCollect(1), aBetween(least, greatest)}},
		{three(), []call{aPart(1).tells(one).stand(one), aPart(1).tells(two).stand(two), aPart(1).tells(last).stand(last), aPart(1), anAll()}},
		{three(), []call{aPart(2).tells(one, two).stand(two), anAll().tells(last)}},
		{three(), []call{aPart(3).tells(one, two, last).stand(last), anAll()}},
		{three(), []call{aPart(4).tells(one, two, last), aPart(1)}},
		{three(), []call{aNext().stand(one), anAll().tells(two, last)}},
		{three(), []call{aSeek(11).stand(two), aPart(1).tells(last).stand(last), aCollect(greatest)}},
		{three(), []call{aSeek(31), anAll(), aCollect(2), aBetween(10, 40)}},
		{three(), []call{aCollect(0), aCollect(-1), aCollect(least), aCollect(1).tells(one).stand(one), aCollect(0).stand(one), aCollect(least).stand(one), aCollect(2).tells(two, last).stand(last), aCollect(0).stand(last), aCollect(1), aCollect(0)}},
		{three(), []call{aCollect(3).tells(one, two, last).stand(last), anAll()}},
		{three(), []call{aCollect(4).tells(one, two, last), aCollect(4)}},
		{three(), []call{aCollect(greatest).tells(one, two, last), aCollect(greatest)}},
		{three(), []call{aBetween(10, 20).tells(one).stand(two), aBetween(20, 30).tells(two).stand(last), aBetween(30, 40).tells(last), aBetween(40, 50)}},
		{three(), []call{aBetween(10, 21).tells(one, two).stand(last), aBetween(10, 30).stand(last), aBetween(10, 31).tells(last)}},
		{three(), []call{aBetween(10, 10).stand(one), aBetween(10, 11).tells(one).stand(two), aBetween(15, 20).stand(two), aBetween(15, 21).tells(two).stand(last)}},
		{three(), []call{aBetween(30, 10).stand(last), aBetween(10, 20).stand(last), anAll()}},
		{three(), []call{aBetween(11, 19).stand(two), aBetween(21, 29).stand(last)}},
		{three(), []call{aBetween(0, 9).stand(one), aBetween(least, least).stand(one), aBetween(least, greatest).tells(one, two, last)}},
		{three(), []call{aBetween(31, 40), aBetween(10, 40)}},
		{three(), []call{aBetween(greatest, least), anAll()}},
		{three(), []call{aNext().stand(one), aNext().stand(two), aBetween(least, 30).tells(two).stand(last)}},
		{wide(), []call{anAll().tells(a, b, c, d)}},
		{wide(), []call{aBetween(least, greatest).tells(a, b, c).stand(d), aBetween(least, greatest).stand(d), aBetween(greatest, greatest).stand(d), anAll()}},
		{wide(), []call{aBetween(least, least).stand(a), aBetween(least, least+1).tells(a).stand(b), aBetween(-1, 0).tells(b).stand(c), aBetween(least, 1).tells(c).stand(d)}},
		{wide(), []call{aPart(2).tells(a, b).stand(b), aCollect(1).tells(c).stand(c), aCollect(1).tells(d).stand(d), aCollect(1)}},
		{second, []call{anAll().tells(one, two).end(api.ErrSum), anAll().end(api.ErrSum), aCollect(0).end(api.ErrSum)}},
		{second, []call{aPart(2).tells(one, two).stand(two), aPart(1).end(api.ErrSum)}},
		{second, []call{aCollect(2).tells(one, two).stand(two), aCollect(1).end(api.ErrSum)}},
		{second, []call{aCollect(3).tells(one, two).end(api.ErrSum), aBetween(10, 30).end(api.ErrSum)}},
		{second, []call{aBetween(10, 20).tells(one).stand(two), aBetween(20, 30).tells(two).end(api.ErrSum)}},
		{second, []call{aBetween(11, 21).tells(two).end(api.ErrSum), anAll().end(api.ErrSum)}},
		{second, []call{aBetween(30, 40).end(api.ErrSum), aBetween(10, 40).end(api.ErrSum)}},
		{first, []call{anAll().end(api.ErrSum), aCollect(1).end(api.ErrSum)}},
		{first, []call{aBetween(30, 40).end(api.ErrSum)}},
	}
}

// The calls tell what is written out.
func TestWrittenOut(t *testing.T) {
	for _, y := range bothWays() {
		for i, r := range runs() {
			x := y.of(r.b)
			for k, c := range r.calls {
				told := c.do(x)
				at, v := x.At()
				if !slices.Equal(told, c.told) || at != c.at.T || v != c.at.V || !isCode(x.Err(), codeOf(c.err)) {
					t.Fatalf("%s, run %d, call %d, %s: %v, At %d, %d, Err %v; want %v, %v, %v", y.name, i, k, c.name, told, at, v, x.Err(), c.told, c.at, c.err)
				}
			}
		}
	}
}

// Ranging over All tells all samples of the longest good beginning, in order, and the iterator is at its end then, with the error.
func TestAll(t *testing.T) {
	for _, k := range every(t) {
		for _, y := range bothWays() {
			x := y.of(k.b)
			i := 0
			for at, v := range seq.All(x) {
				if i == len(k.list) || at != k.list[i].T || v != k.list[i].V {
					t.Fatalf("%s, %s: the %d-th is %d, %d", y.name, k.name, i, at, v)
				}
				if a, b := x.At(); a != at || b != v || x.Err() != nil {
					t.Fatalf("%s, %s: At %d, %d, Err %v, where %d, %d is told", y.name, k.name, a, b, x.Err(), at, v)
				}
				i++
			}
			if at, v := x.At(); i != len(k.list) || at != 0 || v != 0 || !isCode(x.Err(), k.code) || x.Next() {
				t.Fatalf("%s, %s: %d samples are told, At %d, %d, Err %v; want %d, %v", y.name, k.name, i, at, v, x.Err(), len(k.list), k.code)
			}
		}
		for _, w := range k.begin(t) {
			w.all(t)
			w.through(t)
		}
	}
}

// A loop that is left at any sample leaves the iterator there, wherever in its chunk this is, and no further Next is called; so it isn't at its end at the last one, either.
func TestAllLeft(t *testing.T) {
	for _, k := range every(t) {
		a := k.begin(t)[0].a
		for n := 1; n <= len(k.list)+1; n++ {
			for _, w := range k.start(t, a) {
				w.part(t, n)
				if n <= len(k.list) && w.x.Err() != nil {
					t.Fatalf("%s: left at %d: Err %v", w.name, n, w.x.Err())
				}
				w.next(t)
				w.all(t)
			}
		}
	}
}

// All by itself calls nothing: each range begins where the iterator stands then.
func TestAllBeginsWhereItStands(t *testing.T) {
	for _, k := range every(t) {
		for _, y := range bothWays() {
			x := y.of(k.b)
			early := seq.All(x)
			if at, v := x.At(); at != 0 || v != 0 || x.Err() != nil {
				t.Fatalf("%s, %s: All goes to %d, %d, %v", y.name, k.name, at, v, x.Err())
			}
			if y, ok := x.(*jump.Iterator); ok && y.Checked() != 0 {
				t.Fatalf("%s: All decodes", k.name)
			}
			x.Next()
			if got, want := upTo(early, 0), k.list[min(1, len(k.list)):]; !slices.Equal(got, want) {
				t.Fatalf("%s, %s: %s behind Next; want %s", y.name, k.name, short(got), short(want))
			}
		}
	}
}

// Each range goes on where the iterator stands: over the same All, over a new one, and over one that was told earlier; at the end each tells none.
func TestAllGoesOn(t *testing.T) {
	for _, k := range every(t) {
		for n := 1; n <= 4; n++ {
			for _, y := range bothWays() {
				x := y.of(k.b)
				same, early := seq.All(x), seq.All(x)
				var got []api.Sample
				for i := 0; len(got) < len(k.list); i++ {
					ahead := len(got)
					switch i % 3 {
					case 0:
						got = append(got, upTo(same, n)...)
					case 1:
						got = append(got, upTo(seq.All(x), n)...)
					default:
						got = append(got, upTo(early, n)...)
					}
					if !slices.Equal(got, k.list[:min(ahead+n, len(k.list))]) {
						t.Fatalf("%s, %s: range %d by %d tells up to %s", y.name, k.name, i, n, short(got))
					}
				}
				for range 2 {
					l := slices.Concat(upTo(same, 0), upTo(seq.All(x), n), upTo(early, 0))
					if at, v := x.At(); len(l) > 0 || at != 0 || v != 0 || !isCode(x.Err(), k.code) {
						t.Fatalf("%s, %s: at its end: %s, At %d, %d, Err %v", y.name, k.name, short(l), at, v, x.Err())
					}
				}
			}
		}
	}
}

// places is how many ways there are to come to a place, by iterators of both layers.
const places = 6

// place tells a walker that has come to a place: -1 is ahead of all, and how many samples there are the end; by Next, by SeekTo, or by both.
func place(t *testing.T, k block, a account, from, i int) *walker {
	t.Helper()
	w := k.by(t, bothWays()[i%2], a)
	sought := []int{-1, from, from / 2}[i/2%3]
	switch {
	case from < 0 || sought < 0:
	case sought < len(k.list):
		w.seek(t, k.list[sought].T)
	default:
		w.seek(t, greatest)
	}
	for w.a.at < from {
		w.next(t)
	}
	if w.a.at != from {
		t.Fatalf("%s: it stands at %d, not at %d", w.name, w.a.at, from)
	}
	return w
}

// From each place, be it come to by Next or by SeekTo, a range tells what is behind it.
func TestAllFromEachPlace(t *testing.T) {
	for _, k := range every(t) {
		a := k.begin(t)[0].a
		for from := -1; from <= len(k.list); from++ {
			for i := range places {
				w := place(t, k, a, from, i)
				w.part(t, 1+i)
				w.all(t)
				w.all(t)
			}
		}
	}
}

// first tells the first sample of a range, from out of its loop.
func first(x api.Iterator) (api.Sample, bool) {
	for at, v := range seq.All(x) {
		return api.Sample{T: at, V: v}, true
	}
	return api.Sample{}, false
}

// rows tells samples row by row: a range is left by a labelled continue of the loop around it where a row has n, and both by a labelled break where there are so many rows.
func rows(x api.Iterator, n, most int) [][]api.Sample {
	var l [][]api.Sample
rows:
	for {
		var row []api.Sample
		for at, v := range seq.All(x) {
			row = append(row, api.Sample{T: at, V: v})
			if len(row) == n && len(l) == most-1 {
				l = append(l, row)
				break rows
			}
			if len(row) == n {
				l = append(l, row)
				continue rows
			}
		}
		return append(l, row)
	}
	return l
}

// skipped tells how many samples a range tells whose loop is left by goto at the n-th one.
func skipped(x api.Iterator, n int) int {
	seen := 0
	for range seq.All(x) {
		seen++
		if seen == n {
			goto out
		}
	}
out:
	return seen
}

// thrown ranges over All, and its loop ends by a panic at the n-th sample; it tells how many there were.
func thrown(x api.Iterator, n int) (seen int) {
	defer func() { recover() }()
	for range seq.All(x) {
		seen++
		if seen == n {
			panic("enough")
		}
	}
	return seen
}

// A loop may be left by a return, by a labelled break or continue of the loop around it, by goto and by a panic: the iterator stands at the sample that was told last, and the next range goes on from there.
func TestAllLeftByEachWay(t *testing.T) {
	for _, k := range every(t) {
		a := k.begin(t)[0].a
		for _, w := range k.start(t, a) {
			for range len(k.list) + 2 {
				s, ok := first(w.x)
				want := w.a.take(1)
				if ok != (len(want) > 0) || ok && s != want[0] {
					t.Fatalf("%s: return: %v, %t; want %v", w.name, s, ok, want)
				}
				w.stands(t, "return")
			}
		}
		for _, c := range []struct{ n, most int }{{1, 1}, {1, 3}, {2, 2}, {3, 1}, {3, 2}, {3, 1000}, {33, 1}, {40, 1}} {
			for _, w := range k.start(t, a) {
				l := rows(w.x, c.n, c.most)
				for i, row := range l {
					if !slices.Equal(row, w.a.take(c.n)) {
						t.Fatalf("%s: row %d by %d: %s", w.name, i, c.n, short(row))
					}
				}
				if want := min(c.most, len(k.list)/c.n+1); len(l) != want {
					t.Fatalf("%s: %d rows, want %d", w.name, len(l), want)
				}
				w.stands(t, "labels")
				w.all(t)
			}
			for _, w := range k.start(t, a) {
				for range 3 {
					if n := skipped(w.x, c.n); n != len(w.a.take(c.n)) {
						t.Fatalf("%s: goto at %d: %d samples", w.name, c.n, n)
					}
					w.stands(t, "goto")
					if n := thrown(w.x, c.n); n != len(w.a.take(c.n)) {
						t.Fatalf("%s: panic at %d: %d samples", w.name, c.n, n)
					}
					w.stands(t, "panic")
				}
				w.all(t)
			}
		}
	}
}

// A loop whose body goes on with the same iterator is told what Next comes to from there on.
func TestAllWhileItGoesOn(t *testing.T) {
	for _, k := range every(t) {
		a := k.begin(t)[0].a
		for n := range 6 {
			for _, w := range k.start(t, a) {
				for at, v := range seq.All(w.x) {
					w.hold(t, "All", []api.Sample{{T: at, V: v}}, w.a.take(1))
					switch n {
					case 0:
						w.next(t)
					case 1:
						w.seek(t, at+1500)
					case 2:
						w.collect(t, 2)
					case 3:
						w.between(t, at, at+2000)
					case 4:
						w.part(t, 1)
					default:
						w.all(t)
					}
				}
				w.a.take(1)
				w.stands(t, "All")
				w.all(t)
			}
		}
	}
}

// Called by hand, a range calls what it was given sample by sample, and no more once this is false.
func TestAllByHand(t *testing.T) {
	for _, k := range every(t) {
		for n := 1; n <= len(k.list)+1; n += 1 + len(k.list)/9 {
			for _, w := range k.begin(t) {
				var got []api.Sample
				seq.All(w.x)(func(at int64, v uint64) bool {
					got = append(got, api.Sample{T: at, V: v})
					return len(got) < n
				})
				w.hold(t, "All by hand", got, w.a.take(n))
			}
		}
	}
}

// mosts tells how many to ask for, of n: 1, some, as many as there are, one more and one less, and far above.
func mosts(n int) []int {
	l := []int{1, 2, 3, n - 1, n, n + 1, n + 7, 2 * n, api.MaxCount, 1<<16 + 1, math.MaxInt32, math.MaxInt32 + 1, 1<<32 + 1, 1<<32 + 3, math.MaxInt - 1, math.MaxInt}
	l = slices.DeleteFunc(l, func(n int) bool { return n < 1 })
	slices.Sort(l)
	return slices.Compact(l)
}

// nones tells how many to ask for, so that none is told.
func nones() []int {
	return []int{0, -1, -2, -65535, math.MinInt32, 1 - 1<<32, math.MinInt + 1, math.MinInt}
}

// From each place Collect tells up to as many samples as it is asked for, and doesn't call Next any more then: the iterator stands at the last of them, and is at its end only if there were fewer.
func TestCollect(t *testing.T) {
	for _, k := range every(t) {
		a := k.begin(t)[0].a
		for from := -1; from <= len(k.list); from++ {
			left := len(k.list) - from - 1
			for i, most := range mosts(max(left, 0)) {
				if len(k.list) > 9 && (i+from)%5 != 0 && most != left && most != left+1 {
					continue
				}
				w := place(t, k, a, from, i)
				w.collect(t, most)
				if left >= most && w.x.Err() != nil {
					t.Fatalf("%s: Collect(%d) of %d: Err %v", w.name, most, left, w.x.Err())
				}
				w.collect(t, most)
				w.next(t)
			}
		}
	}
}

// As many as there are leave the iterator at the last one, one more at its end, with the error.
func TestCollectJustAll(t *testing.T) {
	for _, k := range every(t) {
		n := len(k.list)
		for _, y := range bothWays() {
			for _, most := range []int{n, n + 1, math.MaxInt} {
				x := y.of(k.b)
				l := seq.Collect(x, most)
				at, v := x.At()
				s, code := api.Sample{}, k.code
				if most == n {
					code = 0
					if n > 0 {
						s = k.list[n-1]
					}
				}
				if !slices.Equal(l, k.list) || at != s.T || v != s.V || !isCode(x.Err(), code) {
					t.Fatalf("%s, %s: Collect(%d): %s, At %d, %d, Err %v; want %v, %d", y.name, k.name, most, short(l), at, v, x.Err(), s, int(code))
				}
				if x.Next() || !isCode(x.Err(), k.code) {
					t.Fatalf("%s, %s: it goes on behind Collect(%d)", y.name, k.name, most)
				}
			}
		}
	}
}

// Below 1 nothing is told, and nothing is called: the iterator stays ahead of all, at its sample, or at its end.
func TestCollectNone(t *testing.T) {
	for _, k := range every(t) {
		for _, w := range k.begin(t) {
			for range len(k.list) + 2 {
				for _, most := range nones() {
					w.collect(t, most)
				}
				w.next(t)
			}
		}
	}
}

// Collected one behind the other, all samples are told, each once.
func TestCollectOneBehindTheOther(t *testing.T) {
	for _, k := range every(t) {
		for _, y := range bothWays() {
			for _, most := range mosts(len(k.list)) {
				x := y.of(k.b)
				var got []api.Sample
				for {
					l := seq.Collect(x, most)
					got = append(got, l...)
					if len(l) < most {
						break
					}
				}
				if !slices.Equal(got, k.list) || !isCode(x.Err(), k.code) || len(seq.Collect(x, most)) > 0 {
					t.Fatalf("%s, %s: by %d: %s, Err %v", y.name, k.name, most, short(got), x.Err())
				}
			}
		}
	}
}

// small tells few small blocks: good ones, and such as have a chunk that isn't good, and bytes that are none.
func small(t *testing.T) []block {
	t.Helper()
	var l []block
	for _, list := range [][]api.Sample{nil, timed(-1), timed(least), timed(greatest), timed(least, greatest), timed(least, -1, 0, greatest), even(-3, 5, 1), even(-10, 7, 5)} {
		for _, size := range []int{1, 2, 3, 100} {
			for _, kind := range bothKinds() {
				name := fmt.Sprintf("%s of kind %d by %d", short(list), kind, size)
				l = append(l, block{name, packed(t, kind, list, size), list, 0, list})
			}
		}
	}
	kinds := bothKinds()
	list := even(-10, 7, 5)
	for i, ahead := range []int{0, 2, 4} {
		kind := kinds[i%2]
		pieces := []piece{good(t, kind, list[:2]), good(t, kind, list[2:4]), good(t, kind, list[4:])}
		pieces[i].b = turned(pieces[i].b, 3, 1)
		l = append(l, block{fmt.Sprintf("kind %d, chunk %d turned", kind, i), laid(t, kind, pieces...), list[:ahead], api.ErrSum, list})
	}
	return append(l, none(t)[:9]...)
}

// near tells times to ask for: the ends, 0, those of the samples, and one below and one above each.
func near(list []api.Sample) []int64 {
	l := []int64{least, least + 1, -1 << 40, 0, 1 << 40, greatest - 1, greatest}
	for _, s := range list {
		l = append(l, s.T-1, s.T, s.T+1)
	}
	slices.Sort(l)
	return slices.Compact(l)
}

// From each place, and of each pair of times, Between tells those that are at least the one, and below the other, as far as they are ahead; the iterator stands at the first one behind the first sought that isn't below, or is at its end. It never goes back.
func TestBetweenEachTwo(t *testing.T) {
	for _, k := range small(t) {
		a := k.begin(t)[0].a
		times := near(k.all)
		for at := -1; at <= len(k.list); at++ {
			for i, from := range times {
				for j, to := range times {
					w := place(t, k, a, at, i+j)
					w.between(t, from, to)
					if w.a.at < at {
						t.Fatalf("%s: Between(%d, %d) goes back from %d to %d", w.name, from, to, at, w.a.at)
					}
					w.next(t)
				}
			}
		}
	}
}

// So it does of the other blocks, by some of their times.
func TestBetween(t *testing.T) {
	for i, k := range every(t) {
		a, times := k.begin(t)[0].a, k.times()
		for at := -1; at <= len(k.list); at += 1 + len(k.list)/12 {
			step := 1 + len(times)/3
			for _, from := range someOf(times, i+at+1, step) {
				for _, to := range someOf(times, i+7*at+8, step) {
					w := place(t, k, a, at, i+at+1)
					w.between(t, from, to)
					w.between(t, from, to)
					w.next(t)
				}
			}
		}
	}
}

// From the time of each sample to that of each other one, and to one above it, across chunks, and into one that isn't good.
func TestBetweenSamples(t *testing.T) {
	for _, k := range every(t) {
		step := 1 + len(k.all)/7
		for i := 0; i < len(k.all); i += step {
			for j := i; j < len(k.all); j += step {
				for _, y := range bothWays() {
					for above := range int64(2) {
						if k.all[j].T == greatest {
							continue
						}
						x := y.of(k.b)
						l := seq.Between(x, k.all[i].T, k.all[j].T+above)
						n := len(k.list)
						end := j + int(above)
						want := k.list[min(i, n):min(end, n)]
						s, code := api.Sample{}, k.code
						if i < n && end < n {
							s, code = k.list[end], 0
						}
						at, v := x.At()
						if !slices.Equal(l, want) || at != s.T || v != s.V || !isCode(x.Err(), code) {
							t.Fatalf("%s, %s: %d to %d and %d: %s, At %d, %d, Err %v; want %s, %v, %d", y.name, k.name, i, j, above, short(l), at, v, x.Err(), short(want), s, int(code))
						}
					}
				}
			}
		}
	}
}

// Where to is at the first sample's time, or below, none is told, and the iterator stands there; one above, this one alone is, and it stands at the next one.
func TestBetweenNone(t *testing.T) {
	for _, k := range every(t) {
		for i, s := range k.list {
			for _, y := range bothWays() {
				x := y.of(k.b)
				for _, to := range []int64{least, s.T, s.T - int64(uint64(s.T-least)/2)} {
					l := seq.Between(x, s.T, to)
					if at, v := x.At(); len(l) > 0 || at != s.T || v != s.V || x.Err() != nil {
						t.Fatalf("%s, %s: Between(%d, %d): %s, At %d, %d, Err %v", y.name, k.name, s.T, to, short(l), at, v, x.Err())
					}
				}
				if s.T == greatest {
					continue
				}
				l := seq.Between(x, least, s.T+1)
				at, v := x.At()
				next := api.Sample{}
				if i+1 < len(k.list) {
					next = k.list[i+1]
				}
				if !slices.Equal(l, k.list[i:i+1]) || at != next.T || v != next.V {
					t.Fatalf("%s, %s: Between(least, %d): %s, At %d, %d; want %v, and %v", y.name, k.name, s.T+1, short(l), at, v, s, next)
				}
			}
		}
	}
}

// Of times one behind the other, each sample is told once, from the first time on, up to the last one.
func TestBetweenOneBehindTheOther(t *testing.T) {
	for _, k := range every(t) {
		times := k.times()
		for step := 1; step < 12; step += 3 {
			for _, w := range k.begin(t) {
				var got []api.Sample
				l := someOf(times, step/2, step)
				slices.Sort(l)
				for i, to := range l[1:] {
					told := seq.Between(w.x, l[i], to)
					w.hold(t, fmt.Sprintf("Between(%d, %d)", l[i], to), told, w.a.between(l[i], to))
					got = append(got, told...)
				}
				want := k.list
				if n := len(want); n > 0 && want[n-1].T == greatest {
					want = want[:n-1]
				}
				if !slices.Equal(got, want) {
					t.Fatalf("%s: by %d times: %s, want %s", w.name, len(l), short(got), short(want))
				}
				w.through(t)
			}
		}
	}
}

// anyCall calls one of all calls, and holds its answer.
func (w *walker) anyCall(t *testing.T, next func() uint64, list []api.Sample) {
	t.Helper()
	from := askedOf(next, list, w.a.at)
	switch next() % 9 {
	case 0:
		w.next(t)
	case 1:
		w.seek(t, from)
	case 2, 3:
		w.part(t, 1+int(next()%5))
	case 4:
		w.collect(t, int(next()%7)-2)
	case 5:
		if next()%4 == 0 {
			w.all(t)
		}
	default:
		w.between(t, from, askedOf(next, list, w.a.at))
	}
}

// Any calls, in any order, of blocks that are good, of such as are not, and of bytes that are none.
func TestOfAnyCalls(t *testing.T) {
	next := mixer(1)
	for _, k := range every(t) {
		for range 4 {
			for _, w := range k.begin(t) {
				for range 3 + next()%20 {
					w.anyCall(t, next, k.all)
				}
			}
		}
	}
}

// So of any lists by any sizes, of which bytes may be turned, cut out or put in.
func TestOfAnyBlocks(t *testing.T) {
	seen, stood := map[api.Code]int{}, 0
	for start := range uint64(4000) {
		next := mixer(start)
		list := walk(start, int(next()%40))
		b := packed(t, 1+int(next()%2), list, 1+int(next()%12))
		for range next() % 3 {
			at := int(next()>>1) % len(b)
			switch next() % 6 {
			case 0:
				b = b[:at+1]
			case 1:
				b = slices.Insert(b, at, byte(next()))
			default:
				b[at] ^= 1 << (next() % 8)
			}
		}
		told, err := whole.Decode(b)
		k := block{brief(b), b, told, codeOf(err), list}
		for _, w := range k.begin(t) {
			for range 12 {
				w.anyCall(t, next, list)
			}
			w.through(t)
		}
		seen[k.code]++
		if len(told) > 0 && k.code != 0 {
			stood++
		}
	}
	for _, code := range []api.Code{0, api.ErrMagic, api.ErrShort, api.ErrKind, api.ErrSum, api.ErrIndex} {
		if seen[code] < 20 {
			t.Errorf("%d only %d times", int(code), seen[code])
		}
	}
	if stood < 200 {
		t.Errorf("only %d with some samples and an error", stood)
	}
}

// The iterators of a block, and of others, go on each by itself, also where one is ranged over amid a range over the other.
func TestIteratorsAreApart(t *testing.T) {
	next := mixer(8)
	blocks := every(t)
	for i, k := range blocks {
		other := blocks[next()%uint64(len(blocks))]
		pool := slices.Concat(k.begin(t), k.begin(t), other.begin(t))
		for range 10 {
			pool[next()%6].anyCall(t, next, blocks[i].all)
			for _, w := range pool {
				w.stands(t, "nothing")
			}
		}
	}
	for _, k := range blocks {
		l := k.begin(t)
		outer, inner := l[0], l[1]
		for at, v := range seq.All(outer.x) {
			outer.hold(t, "outer All", []api.Sample{{T: at, V: v}}, outer.a.take(1))
			inner.part(t, 1)
			outer.stands(t, "nothing")
		}
		inner.all(t)
	}
}

// scribble changes a list, and the memory behind it that it has.
func scribble(l []api.Sample) {
	l = l[:cap(l)]
	for i := range l {
		l[i] = api.Sample{T: -77, V: 77}
	}
}

// answer is a list that was told, and what it was then.
type answer struct{ told, then []api.Sample }

// answers calls two iterators of the same bytes by turns, and keeps what they tell.
func answers(t *testing.T, pool []*walker, most int) []answer {
	t.Helper()
	var l []answer
	keep := func(w *walker, told, want []api.Sample) {
		w.hold(t, "a call", told, want)
		l = append(l, answer{told, slices.Clone(told)})
	}
	for range 3 {
		for _, w := range pool {
			keep(w, seq.Collect(w.x, most), w.a.take(most))
			keep(w, seq.Collect(w.x, 0), nil)
			to := w.a.look().T + 2500
			keep(w, seq.Between(w.x, least, to), w.a.between(least, to))
			keep(w, seq.Between(w.x, least, least), w.a.between(least, least))
		}
	}
	return l
}

// What is told is new memory, by P20.2: changed, and what memory there is behind it, it changes neither another answer, nor the bytes, nor what the iterator, or another one of the same bytes, goes on to tell; nor does a later call change it.
func TestNewMemory(t *testing.T) {
	for _, k := range every(t) {
		before := bytes.Clone(k.b)
		for i := range bothWays() {
			for most := 1; most < 5; most++ {
				pool := []*walker{k.begin(t)[i], k.begin(t)[i]}
				l := answers(t, pool, most)
				for n, a := range l {
					if !slices.Equal(a.told, a.then) {
						t.Fatalf("%s: a later call changes answer %d", pool[0].name, n)
					}
				}
				for n, a := range l {
					scribble(a.told)
					for m, b := range l[n+1:] {
						if !slices.Equal(b.told, b.then) {
							t.Fatalf("%s: answer %d changes answer %d", pool[0].name, n, n+1+m)
						}
					}
				}
				for _, w := range append(pool, k.begin(t)[i]) {
					w.stands(t, "behind a change")
					w.collect(t, 2)
					w.all(t)
				}
				if !bytes.Equal(k.b, before) {
					t.Fatalf("%s: the bytes are changed", pool[0].name)
				}
			}
		}
	}
}

// Of what was packed, all samples are collected, as P20.3 says, by both kinds and by any size; and between two times those that are the one at least, and below the other.
func TestAllOfABlock(t *testing.T) {
	for _, list := range append(lists(), walk(5, 300), even(least, 100, 1), even(-100_000, 200, 1000)) {
		n := len(list)
		for _, size := range []int{1, 2, 7, max(n-1, 1), max(n, 1), n + 1, api.MaxCount} {
			for _, kind := range bothKinds() {
				b := packed(t, kind, list, size)
				for _, y := range bothWays() {
					x := y.of(b)
					if l := seq.Collect(x, math.MaxInt); !slices.Equal(l, list) || x.Err() != nil {
						t.Fatalf("%s: %s of kind %d by %d: %s, Err %v", y.name, short(list), kind, size, short(l), x.Err())
					}
					if l := ranged(y.of(b), 0); !slices.Equal(l, list) {
						t.Fatalf("%s: %s of kind %d by %d: All tells %s", y.name, short(list), kind, size, short(l))
					}
					windows(t, y, b, list, size)
				}
			}
		}
	}
}

// windows asks new iterators for what is between some times.
func windows(t *testing.T, y way, b []byte, list []api.Sample, size int) {
	t.Helper()
	times := append([]int64{}, least, 0, greatest)
	for i := size % 5; i < len(list); i += 1 + len(list)/4 {
		times = append(times, list[i].T-1, list[i].T, list[i].T+1)
	}
	for _, from := range times {
		for _, to := range times {
			var want []api.Sample
			for _, s := range list {
				if from <= s.T && s.T < to {
					want = append(want, s)
				}
			}
			if l := seq.Between(y.of(b), from, to); !slices.Equal(l, want) {
				t.Fatalf("%s: %s by %d: Between(%d, %d): %s, want %s", y.name, short(list), size, from, to, short(l), short(want))
			}
		}
	}
}

// So of many samples, in leaps across chunks; and layer 19's iterator comes to no chunk ahead of need.
func TestOfManySamples(t *testing.T) {
	for _, c := range []struct{ n, size int }{{30_003, 1000}, {9000, 1}, {2*65535 + 9, 65535}, {9000, 33}, {3000, 3000}} {
		for _, kind := range bothKinds() {
			list := walk(uint64(c.n), c.n)
			b := packed(t, kind, list, c.size)
			name := fmt.Sprintf("%d of kind %d by %d", c.n, kind, c.size)
			k := block{name, b, list, 0, list}
			for _, w := range k.begin(t) {
				w.all(t)
			}
			for _, leap := range []int{1, c.size + 1, c.n - 1, c.n} {
				for _, w := range k.begin(t) {
					for range 4 {
						w.collect(t, leap)
						w.part(t, leap)
						at := min(max(w.a.at, 0)+leap, c.n-1)
						w.between(t, list[at/2].T, list[at].T)
						w.between(t, list[at].T-1, list[min(at+leap, c.n-1)].T+1)
					}
					w.collect(t, math.MaxInt)
				}
			}
		}
	}
}

// A chunk that isn't good far behind many that are ends what is told.
func TestOfManyChunksBeforeTheBad(t *testing.T) {
	list := walk(4, 40_000)
	for _, size := range []int{1, 100} {
		b := packed(t, api.Ints, list, size)
		h, n, err := index.Get(b)
		if err != nil {
			t.Fatal(err)
		}
		ahead := 0
		for _, e := range h.List[:len(h.List)*3/4] {
			n, ahead = n+e.Len, ahead+e.Count
		}
		k := block{brief(b), turned(b, n, 16), list[:ahead], api.ErrSum, list}
		for _, w := range k.begin(t) {
			w.collect(t, ahead)
			w.all(t)
		}
		for _, w := range k.begin(t) {
			w.between(t, list[1000].T, list[20_000].T)
			w.between(t, list[29_990].T, greatest)
		}
	}
}

// What a call takes of memory hangs on what it tells, not on how many it is asked for.
func TestMemoryByWhatIsTold(t *testing.T) {
	for _, y := range bothWays() {
		x := y.of(three())
		if n := spent(func() { seq.Collect(x, 1<<24) }); n > 1<<16 {
			t.Errorf("%s: Collect of three samples takes %d bytes", y.name, n)
		}
	}
}

// Iterators of the same bytes that are gone through at the same time know nothing of each other.
func TestAtTheSameTime(t *testing.T) {
	var wg sync.WaitGroup
	list := walk(7, 300)
	b := packed(t, api.Ints, list, 40)
	for _, y := range bothWays() {
		for range 4 {
			wg.Go(func() {
				for range 30 {
					x := y.of(b)
					l := slices.Concat(seq.Collect(x, 50), ranged(x, 60))
					from := seq.Between(x, least, list[200].T)
					if !slices.Equal(l, list[:110]) || !slices.Equal(from, list[109:200]) || !slices.Equal(ranged(x, 0), list[201:]) {
						t.Errorf("%s: %s, %s", y.name, short(l), short(from))
						return
					}
				}
			})
		}
	}
	wg.Wait()
}
