package script_test

import (
	"bytes"
	"encoding/binary"
	"fmt"
	"slices"
	"testing"

	"gaiter/api"
	"gaiter/chunk"
	"gaiter/index"
	"gaiter/jump"
	"gaiter/pack"
	"gaiter/quick"
	"gaiter/scan"
	"gaiter/script"
)

// The promises of the whole, T1 to T5. Of any bytes the answers are held against what the document's words say of them, worked out plainly; of what was packed against the samples that were.

// spelled tells a script with At and Err behind each step: so all that an iterator tells is told at every step.
func spelled(l []script.Step) []script.Step {
	more := []script.Step{anAt(), anErr()}
	for _, s := range l {
		more = append(more, s, anAt(), anErr())
	}
	return more
}

// scripts tells scripts that come to all of a list: by Next, by SeekTo, by both, and by any steps.
func scripts(next func() uint64, list []api.Sample) [][]script.Step {
	var through, seeks, turns []script.Step
	for i, s := range list[:min(len(list), 300)] {
		through = append(through, aNext())
		seeks = append(seeks, aSeek(s.T))
		turns = append(turns, []script.Step{aNext(), aSeek(s.T), aSeek(s.T - 1)}[i%3])
	}
	end := []script.Step{aNext(), aNext(), aSeek(least), aSeek(greatest), aNext()}
	l := [][]script.Step{spelled(append(through, end...)), spelled(append(turns, end...)), spelled(append(seeks, aSeek(greatest), aSeek(least), aNext(), aNext()))}
	l = append(l, []script.Step{aSeek(greatest), anErr(), anAt(), aNext(), anErr(), anAt()})
	return append(l, spelled(anySteps(next, list, 5+int(next()%30))), anySteps(next, list, 40))
}

// holdScripts holds both iterators, by these scripts, against what the words say of bytes; list is what was laid in them, or nil, where this is what they tell.
func holdScripts(t *testing.T, next func() uint64, b []byte, list []api.Sample) block {
	t.Helper()
	k := blockOf(b)
	if list == nil {
		list = k.list
	}
	for i, l := range scripts(next, list) {
		if len(list) > 9 && next()%2 == 0 && i != int(next()%6) {
			// Of more samples some scripts do.
			continue
		}
		slow, quick := k.told(t, false, l), k.told(t, true, l)
		if n := differ(slow, quick); n >= 0 {
			t.Fatalf("%s: step %d of %v: %v, quick: %v", k.name, n, l[max(n-9, 0):n+1], slow[n], quick[n])
		}
		k.holdReplies(t, false, l, slow, k.replies(l))
	}
	return k
}

// tally counts of what kind bytes were.
type tally struct {
	seen  map[api.Code]int
	stood int // with some samples, and an error behind them
}

func newTally() *tally { return &tally{seen: map[api.Code]int{}} }

func (y *tally) count(k block) {
	y.seen[k.code]++
	if k.code != 0 && len(k.list) > 0 {
		y.stood++
	}
}

// hold fails the test, if there weren't so many of each of these errors, and so many with some samples ahead of one.
func (y *tally) hold(t *testing.T, most, stood int, codes ...api.Code) {
	t.Helper()
	for _, code := range codes {
		if y.seen[code] < most {
			t.Errorf("%d only %d times", int(code), y.seen[code])
		}
	}
	if y.stood < stood {
		t.Errorf("only %d with some samples and an error", y.stood)
	}
}

// some tells few blocks of both kinds, for tests of each of their bytes.
func some(t *testing.T) []block {
	t.Helper()
	var l []block
	for _, list := range [][]api.Sample{nil, timed(-1), timed(least, greatest), even(-3000, 7, 1000), even(-16, 33, 1), walk(3, 12)} {
		for _, size := range []int{1, 3, 32, 100} {
			for _, kind := range bothKinds() {
				name := fmt.Sprintf("%s of kind %d by %d", short(list), kind, size)
				l = append(l, block{name, packed(t, kind, list, size), list, 0, list})
			}
		}
	}
	return l
}

// T1, T2: of blocks that are good, of such as have a chunk that isn't, for each reason, and of bytes that have no index.
func TestBothOfEveryBlock(t *testing.T) {
	next := mixer(11)
	y := newTally()
	for _, k := range every(t) {
		x := holdScripts(t, next, k.b, k.all)
		if !slices.Equal(x.list, k.list) || x.code != k.code {
			t.Fatalf("%s: %s, %d", k.name, short(x.list), int(x.code))
		}
		y.count(x)
	}
	y.hold(t, 4, 300, 0, api.ErrShort, api.ErrForm, api.ErrOrder, api.ErrMagic, api.ErrKind, api.ErrSum, api.ErrIndex)
	y.hold(t, 2, 300, api.ErrLarge)
}

// T1, T2: of blocks, each of whose bytes is changed: in a chunk, the chunks ahead of it are the longest good beginning, and ErrSum is behind.
func TestBothOfEachByteChanged(t *testing.T) {
	next := mixer(12)
	for _, k := range some(t) {
		_, chunks, n, _ := indexOf(k.b)
		for at := range n {
			x := holdScripts(t, next, turned(k.b, at, 1<<(at%8)), k.all)
			y := holdScripts(t, next, turned(k.b, at, byte(37*at)|4), k.all)
			if len(x.list) > 0 || x.code == 0 || len(y.list) > 0 || y.code == 0 {
				t.Fatalf("%s: byte %d changed: %s, %d", k.name, at, short(x.list), int(x.code))
			}
		}
		ahead := 0
		for _, e := range chunks {
			for at := n; at < n+e.Len; at++ {
				x := holdScripts(t, next, turned(k.b, at, 1<<(at%8)), k.all)
				if !slices.Equal(x.list, k.list[:ahead]) || x.code != api.ErrSum {
					t.Fatalf("%s: byte %d changed: %s, %d", k.name, at, short(x.list), int(x.code))
				}
			}
			n, ahead = n+e.Len, ahead+e.Count
		}
	}
}

// T1, T2: of blocks that are cut off at every length, or have bytes behind them: no sample, and an error.
func TestBothOfCutOffAndLonger(t *testing.T) {
	next := mixer(13)
	for _, k := range some(t) {
		_, _, n, _ := indexOf(k.b)
		for size := range k.b {
			want := api.Code(api.ErrIndex)
			if size < n {
				want = api.ErrShort
			}
			if size < 4 {
				want = api.ErrMagic
			}
			// What is cut off still stands in the memory behind.
			for _, b := range [][]byte{k.b[:size], slices.Clip(k.b[:size])} {
				if x := holdScripts(t, next, b, k.all); len(x.list) > 0 || x.code != want {
					t.Fatalf("%s, cut off at %d: %s, %d", k.name, size, short(x.list), int(x.code))
				}
			}
		}
		for _, more := range [][]byte{{0}, {255}, make([]byte, 4), k.b} {
			if x := holdScripts(t, next, slices.Concat(k.b, more), k.all); len(x.list) > 0 || x.code != api.ErrIndex {
				t.Fatalf("%s with %d bytes behind: %s, %d", k.name, len(more), short(x.list), int(x.code))
			}
		}
	}
}

// T1, T2: of any lists by any sizes, of which bytes may be changed, cut off or put in.
func TestBothOfAnyBlocks(t *testing.T) {
	y := newTally()
	for start := range uint64(3000) {
		next := mixer(start)
		list := walk(start, int(next()%70))
		b := packed(t, 1+int(next()%2), list, 1+int(next()%40))
		for range next() % 3 {
			at := int(next()>>1) % len(b)
			switch next() % 6 {
			case 0:
				b = b[:at+1]
			case 1:
				b = slices.Insert(b, at, byte(next()))
			default:
				b[at] ^= 1 << (next() % 8)
			}
		}
		y.count(holdScripts(t, next, b, list))
	}
	y.hold(t, 10, 150, 0, api.ErrMagic, api.ErrShort, api.ErrKind, api.ErrSum, api.ErrIndex)
}

// T1, T2: of any bytes, some of which begin like a block.
func TestBothOfAnyBytes(t *testing.T) {
	y := newTally()
	for start := range uint64(6000) {
		next := mixer(start)
		b := make([]byte, next()%60)
		for i := range b {
			b[i] = byte(next() & next())
		}
		if start%2 == 0 {
			b = append([]byte{71, 84, 83, 49, byte(next() % 4), byte(next() % 3)}, b...)
		}
		if start%4 == 0 {
			b = summed(b)
		}
		y.count(holdScripts(t, next, b, nil))
	}
	y.hold(t, 5, 0, api.ErrMagic, api.ErrShort, api.ErrForm, api.ErrKind, api.ErrSum, api.ErrIndex)
}

// entryOf tells what an index may tell of a body that should be so many samples from a time on: its own first and last time, if it has them, and these are ahead of the next chunk.
func entryOf(kind int, body []byte, count int, from, to int64) index.Entry {
	e := index.Entry{Min: from, Max: to - 1, Count: count, Len: len(body) + 4}
	l, code := samples(kind, body, count)
	if code == 0 && l[0].T >= from && l[len(l)-1].T < to {
		e.Min, e.Max = l[0].T, l[len(l)-1].T
	}
	return e
}

// changed tells a body of which bits are changed, cut off, or put in, its first 16 bytes seldom; by sums that are laid anew, that is for the decoders to see.
func changed(next func() uint64, body []byte) []byte {
	body = bytes.Clone(body)
	for range 1 + next()%3 {
		at := int(next()>>1) % len(body)
		if at < 16 && len(body) > 16 && next()%8 > 0 {
			at = 16 + int(next()>>1)%(len(body)-16)
		}
		switch next() % 8 {
		case 0:
			body = body[:at+1]
		case 1:
			body = slices.Insert(body, at, byte(next()&next()))
		case 2:
			body[at] = byte(next() & next())
		default:
			body[at] ^= 1 << (next() % 8)
		}
	}
	return body
}

// T1, T2: of blocks of several chunks, of which any bits are changed, and the sums are laid anew.
func TestBothOfAnyChunks(t *testing.T) {
	const apart = int64(1) << 40
	y := newTally()
	for start := range uint64(6000) {
		next := mixer(start)
		kind := 1 + int(next()%2)
		var pieces []piece
		var list []api.Sample
		for i := range 1 + int64(next()%4) {
			from := (i - 2) * apart
			part := even(from, 1+int(next()%90), 1+int64(next()%40))
			for j := range part {
				switch next() % 8 {
				case 0:
					part[j].V = next()
				case 1, 2:
					part[j].V = uint64(j * j)
				case 3:
					part[j].T += int64(next()) % 2 * int64(j%2)
				}
			}
			part = slices.CompactFunc(part, func(a, b api.Sample) bool { return a.T >= b.T })
			body, err := chunk.Encode(kind, part)
			if err != nil {
				t.Fatalf("%s: %v", short(part), err)
			}
			count := len(part)
			if next()%3 == 0 {
				body = changed(next, body)
				if next()%3 == 0 {
					count = max(1, count+int(next()%3)-1)
				}
			}
			pieces = append(pieces, piece{entryOf(kind, body, count, from, from+apart), summed(body)})
			list = append(list, part...)
		}
		y.count(holdScripts(t, next, laid(t, kind, pieces...), list))
	}
	y.hold(t, 20, 300, 0, api.ErrShort, api.ErrForm, api.ErrOrder, api.ErrIndex)
}

// digits are bits, one by one.
type digits []byte

func (d *digits) put(v uint64, n int) {
	for n--; n >= 0; n-- {
		*d = append(*d, byte(v>>n&1))
	}
}

// bytes tells the bytes of bits, with 0s up to a whole one.
func (d digits) bytes() []byte {
	b := make([]byte, (len(d)+7)/8)
	for i, x := range d {
		b[i/8] |= x << (7 - i%8)
	}
	return b
}

// number puts a number behind so many 1s, as layer 5 has it.
func (d *digits) number(ones int, v int64) {
	d.put(1<<ones-1, ones)
	if ones < 4 {
		d.put(0, 1)
	}
	d.put(uint64(v), []int{0, 7, 9, 12, 64}[ones])
}

// anyStepOf puts the code of how a time goes on, mostly not much unlike ahead; seldom bits that are none.
func (d *digits) anyStepOf(next func() uint64) {
	v := int64(next())
	switch next() % 24 {
	case 0:
		d.number(2, []int64{64, -65, 255, -256, v % 256}[next()%5])
	case 1:
		d.number(3, []int64{256, -257, 2047, -2048, v % 2048}[next()%5])
	case 2:
		d.number(4, []int64{2048, 1 << 40, 1 << 62, -2049, v >> (next() % 64)}[next()%5])
	case 3, 4, 5, 6, 7, 8, 9, 10:
		d.number(1, []int64{1, -1, 63, -64, v % 64}[next()%5])
	default:
		d.number(0, 0)
	}
}

// anyNumber puts the code of how a value goes on; seldom bits that are none.
func (d *digits) anyNumber(next func() uint64) {
	v := int64(next())
	switch next() % 10 {
	case 0, 1, 2:
		d.number(1, []int64{1, -1, 63, -64, 1 + v%31}[next()%5])
	case 3:
		d.number(2, []int64{64, -65, 255, -256, 128 + v%64}[next()%5])
	case 4:
		d.number(3, []int64{256, -257, 2047, -2048, 1000 + v%500}[next()%5])
	case 5:
		d.number(4, []int64{2048, -2049, least, greatest, v >> (next() % 50)}[next()%5])
	default:
		d.number(0, 0)
	}
}

// anyValue puts the code of a value, as layer 7 has it in this window; seldom one that is none. It tells the window behind it.
func (d *digits) anyValue(next func() uint64, w window) window {
	choice := next() % 8
	switch {
	case choice < 2:
		d.put(0, 1)
		return w
	case choice < 6 && (w.size > 0 || next()%16 == 0):
		d.put(2, 2)
		if next()%40 == 0 {
			d.put(0, w.size)
		} else {
			d.put(next()|1, w.size)
		}
		return w
	case w.size > 13 && next()%8 == 0:
		// It would have been in the window, by as many bits.
		w = window{w.lead + int(next()%13), w.size - 12}
	default:
		w.size = min(64, max(w.size, int(next()%64)+1))
		w.lead = int(next() % uint64(65-w.size))
	}
	d.put(3, 2)
	d.put(uint64(w.lead)+next()%40/39, 6)
	d.put(uint64(w.size-1), 6)
	d.put(next()|1|1<<(w.size-1), w.size)
	return w
}

// anyBody tells the bytes of so many samples by any codes, which are samples as far as they go.
func anyBody(next func() uint64, kind, count int) []byte {
	var d digits
	d.put(next()>>(next()%64), 64)
	d.put(next()>>(next()%64), 64)
	var w window
	for i := range count - 1 {
		if i == 0 {
			d.number(3, 300+int64(next()%1700))
		} else {
			d.anyStepOf(next)
		}
		if kind == api.Ints {
			d.anyNumber(next)
		} else {
			w = d.anyValue(next, w)
		}
	}
	return d.bytes()
}

// T1, T2: of chunks of any codes, one behind the other.
func TestBothOfAnyCodes(t *testing.T) {
	y := newTally()
	long := 0
	for start := range uint64(4000) {
		next := mixer(start)
		kind, count := 1+int(next()%2), 1+int(next()%60)
		body := anyBody(next, kind, count)
		if next()%6 == 0 {
			body = body[:1+int(next()>>1)%len(body)]
		}
		// Each count up to where the codes are no samples any more.
		n := count
		for n > 1 {
			if _, code := samples(kind, body, n); code == 0 || next()%9 == 0 {
				break
			}
			n--
		}
		p := piece{entryOf(kind, body, n, least, greatest), summed(body)}
		behind := good(t, kind, timed(greatest))
		k := holdScripts(t, next, laid(t, kind, p, behind), nil)
		y.count(k)
		if len(k.list) > 33 {
			long++
		}
	}
	y.hold(t, 100, 0, 0, api.ErrShort, api.ErrForm, api.ErrOrder)
	if long < 100 {
		t.Errorf("only %d of more than 33 samples", long)
	}
}

// bytesOf tells an index's bytes, with a right sum, also of one that may not be.
func bytesOf(kind int, chunks []index.Entry) []byte {
	b := append([]byte("GTS1"), byte(kind))
	b = binary.AppendUvarint(b, uint64(len(chunks)))
	for _, e := range chunks {
		b = binary.BigEndian.AppendUint64(b, uint64(e.Min))
		b = binary.AppendUvarint(b, uint64(e.Max-e.Min))
		b = binary.AppendUvarint(b, uint64(e.Count))
		b = binary.AppendUvarint(b, uint64(e.Len))
	}
	return summed(b)
}

// T1, T2: of good chunks behind an index that may not be, or isn't theirs: whatever its right sum, it can't be read, or tells of chunks that aren't good.
func TestBothOfAnyIndices(t *testing.T) {
	y := newTally()
	for start := range uint64(4000) {
		next := mixer(start)
		kind := 1 + int(next()%2)
		var list []api.Sample
		var chunks []index.Entry
		var body []byte
		from := int64(-100)
		for range 1 + next()%4 {
			part := even(from, 1+int(next()%5), 1+int64(next()%9))
			p := good(t, kind, part)
			chunks, body, list = append(chunks, p.e), append(body, p.b...), append(list, part...)
			// Some begin where the one ahead of them ends, or below.
			from = p.e.Max + []int64{1, 1, 1, 1, 1, 0, 0, -1, 500}[next()%9]
		}
		e := &chunks[next()%uint64(len(chunks))]
		switch next() % 12 {
		case 0:
			e.Max += int64(next()%3) - 1
		case 1:
			e.Min += int64(next()%3) - 1
		case 2:
			e.Max = []int64{least, greatest, e.Min - 1, e.Min - 2, -1}[next()%5]
		case 3:
			e.Count += []int{-1, 1, -e.Count, 65535 - e.Count, 65536 - e.Count, 1 << 32, 1 << 40}[next()%7]
		case 4:
			e.Len += []int{-1, 1, -e.Len, 3 - e.Len, 4 - e.Len, 1 << 31, 1 << 32}[next()%7]
		case 5:
			kind = int(next() % 4)
		case 6, 7:
			// As many bytes as there are, but not where the chunks end.
			by := []int{1, -1, e.Len - 3, e.Len - 4, e.Len}[next()%5]
			e.Len -= by
			chunks[len(chunks)-1].Len += by
		}
		b := append(bytesOf(kind, chunks), body...)
		y.count(holdScripts(t, next, b, list))
	}
	y.hold(t, 20, 20, 0, api.ErrKind, api.ErrSum, api.ErrShort, api.ErrForm, api.ErrIndex)
}

// T1, T2: of many samples, and by scripts of as many steps as may be, of which the last ones come to the end.
func TestBothOfManySamples(t *testing.T) {
	next := mixer(14)
	for _, c := range []struct{ n, size int }{{3000, 1}, {30_003, 1000}, {5000, 33}, {65535 + 9, 65535}, {1000, 1000}, {999, 32}} {
		for _, kind := range bothKinds() {
			list := walk(uint64(c.n), c.n)
			b := packed(t, kind, list, c.size)
			k := block{fmt.Sprintf("%d of kind %d by %d", c.n, kind, c.size), b, list, 0, list}
			leaps := make([]script.Step, 0, mostSteps)
			for i := range mostSteps / 4 {
				s := list[i*(c.n+9)/(mostSteps/4)%c.n]
				leaps = append(leaps, aSeek(s.T-int64(i%2)), anAt(), aNext(), anAt())
			}
			k.hold(t, leaps...)
			k.hold(t, anySteps(next, list, mostSteps)...)
			_, chunks, at, _ := indexOf(b)
			bad := len(chunks) * 3 / 4
			ahead := 0
			for _, e := range chunks[:bad] {
				at, ahead = at+e.Len, ahead+e.Count
			}
			k = block{k.name + ", of which one isn't good", turned(b, at, 16), list[:ahead], api.ErrSum, list}
			k.hold(t, leaps...)
			k.hold(t, aSeek(list[ahead].T-1), anAt(), aSeek(list[ahead].T), anErr(), anAt(), aNext(), anErr())
		}
	}
}

// iterators tells one of each layer.
func iterators(b []byte) []api.Iterator { return []api.Iterator{scan.New(b), jump.New(b)} }

// rest tells all samples that an iterator comes to by Next.
func rest(x api.Iterator) []api.Sample {
	var l []api.Sample
	for x.Next() {
		t, v := x.At()
		l = append(l, api.Sample{T: t, V: v})
	}
	return l
}

// sizesOf tells sizes to pack n samples by: 1, 2, one fewer, as many as there are, and more.
func sizesOf(n int) []int {
	l := []int{1, 2, 3, 7, 31, 32, 33, n - 1, n, n + 1, 2*n + 1, 65534, 65535}
	l = slices.DeleteFunc(l, func(n int) bool { return n < 1 || n > 65535 })
	slices.Sort(l)
	return slices.Compact(l)
}

// T3: samples whose times rise are packed by any size, and told again, by both iterators, without an error.
func TestPackedIsToldAgain(t *testing.T) {
	more := [][]api.Sample{even(least, 100, 1), even(greatest-99, 100, 1), even(-100_000, 64, 1000), walk(21, 65), walk(22, 97), walk(23, 300)}
	for _, list := range append(lists(), more...) {
		for _, size := range sizesOf(len(list)) {
			for _, kind := range bothKinds() {
				b := packed(t, kind, list, size)
				if _, chunks, _, _ := indexOf(b); len(chunks) != (len(list)+size-1)/size {
					t.Fatalf("%s of kind %d by %d: %d chunks", short(list), kind, size, len(chunks))
				}
				for i, x := range iterators(b) {
					if l := rest(x); !slices.Equal(l, list) || x.Err() != nil || x.Next() {
						t.Fatalf("iterator %d: %s of kind %d by %d: %s, %v", i, short(list), kind, size, short(l), x.Err())
					}
				}
				k := block{fmt.Sprintf("%s of kind %d by %d", short(list), kind, size), b, list, 0, list}
				k.hold(t, append(slices.Repeat([]script.Step{aNext(), anAt()}, min(len(list), 490)), aNext(), anErr())...)
			}
		}
	}
}

// T3: so are any values: each bit alone, all but one, many that stay, and leaps of any width.
func TestAnyValuesAreToldAgain(t *testing.T) {
	var lists [][]api.Sample
	add := func(v func(i int) uint64) {
		list := even(-70, 140, 3)
		for i := range list {
			list[i].V = v(i)
		}
		lists = append(lists, list)
	}
	next := mixer(31)
	add(func(i int) uint64 { return 0 })
	add(func(i int) uint64 { return all })
	add(func(i int) uint64 { return 1 << (i % 64) })
	add(func(i int) uint64 { return all ^ 1<<(i*7%64) })
	add(func(i int) uint64 { return uint64(i%2) * all })
	add(func(i int) uint64 { return uint64(i) })
	add(func(i int) uint64 { return uint64(-i * i) })
	add(func(i int) uint64 { return half + uint64(i%3) - 1 })
	add(func(i int) uint64 { return next() })
	add(func(i int) uint64 { return next() >> (next() % 64) << (next() % 64) })
	for w := range 64 {
		add(func(i int) uint64 { return 1<<w - 1 + uint64(i%3) })
	}
	for _, list := range lists {
		for _, size := range []int{1, 2, 33, 140, 65535} {
			for _, kind := range bothKinds() {
				for i, x := range iterators(packed(t, kind, list, size)) {
					if l := rest(x); !slices.Equal(l, list) || x.Err() != nil {
						t.Fatalf("iterator %d: %s of kind %d by %d: %s, %v", i, short(list), kind, size, short(l), x.Err())
					}
				}
			}
		}
	}
}

// T3: so are many.
func TestManyAreToldAgain(t *testing.T) {
	for _, c := range []struct{ n, size int }{{65535, 65535}, {65536, 65535}, {131_079, 65535}, {20_000, 1}, {20_001, 2}, {65535, 32}} {
		for _, kind := range bothKinds() {
			list := walk(uint64(c.size), c.n)
			for i, x := range iterators(packed(t, kind, list, c.size)) {
				if l := rest(x); !slices.Equal(l, list) || x.Err() != nil {
					t.Fatalf("iterator %d: %d of kind %d by %d: %s, %v", i, c.n, kind, c.size, short(l), x.Err())
				}
			}
		}
	}
}

// T3: where the times don't rise, wherever this is, it is ErrOrder, and there are no bytes.
func TestTimesThatDoNotRise(t *testing.T) {
	fails := func(kind int, list []api.Sample, size int) {
		t.Helper()
		b, err := pack.Pack(kind, list, size)
		if !isCode(err, api.ErrOrder) || len(b) > 0 {
			t.Fatalf("%v of kind %d by %d: %d bytes, %v", list[:min(len(list), 40)], kind, size, len(b), err)
		}
	}
	for _, kind := range bothKinds() {
		for _, n := range []int{2, 3, 5, 33, 66} {
			for _, size := range sizesOf(n) {
				for at := 1; at < n; at++ {
					list := even(-20, n, 10)
					before := list[at-1].T
					for _, to := range []int64{before, before - 1, before - 10, least, -5000} {
						list[at].T = to
						fails(kind, list, size)
					}
				}
			}
		}
		for _, size := range []int{1, 2, 3} {
			fails(kind, timed(greatest, least), size)
			fails(kind, timed(greatest, greatest), size)
			fails(kind, timed(least, least), size)
			fails(kind, timed(0, 0), size)
			fails(kind, timed(0, -1, 5), size)
			fails(kind, timed(least, greatest, least+1), size)
		}
		list := walk(5, 9000)
		list[8999].T = list[8998].T
		for _, size := range []int{1, 1000, 8999, 9000, 65535} {
			fails(kind, list, size)
		}
	}
}

// first tells the first place, from a place on, whose sample's time is t at least; or how many samples there are.
func first(list []api.Sample, from int, t int64) int {
	for i := max(from, 0); i < len(list); i++ {
		if list[i].T >= t {
			return i
		}
	}
	return len(list)
}

// at tells the reply to At, where an iterator is at a place.
func at(list []api.Sample, i int) script.Reply {
	if i < 0 || i >= len(list) {
		return script.Reply{}
	}
	return script.Reply{T: list[i].T, V: list[i].V}
}

// T4: from every place, SeekTo is true just if there is a sample from there on whose time is t at least; the iterator stands at the first such, or is at its end, without an error.
func TestSeekFromEveryPlace(t *testing.T) {
	for i, list := range append(lists(), even(-40, 9, 10), walk(41, 40)) {
		n := len(list)
		for j, size := range []int{1, 2, 3, max(n-1, 1), n + 1} {
			kind := 1 + (i+j)%2
			k := block{fmt.Sprintf("%s of kind %d by %d", short(list), kind, size), packed(t, kind, list, size), list, 0, list}
			for from := -1; from <= n; from++ {
				times := asked(list)
				if n > 9 {
					times = someOf(times, from+1, 3)
				}
				for way, to := range times {
					seekFrom(t, k, from, way, to)
				}
			}
		}
	}
}

// seekFrom seeks a time from a place, and goes on from there.
func seekFrom(t *testing.T, k block, from, way int, to int64) {
	t.Helper()
	n := len(k.list)
	found := n
	if from < n {
		found = first(k.list, from, to)
	}
	come := toPlace(k.list, from, way)
	l := append(come, anAt(), anErr(), aSeek(to), anAt(), anErr(), aSeek(to), anAt(), aNext(), anAt(), anErr())
	stands := min(found+1, n)
	want := []script.Reply{at(k.list, from), {}, {Ok: found < n}, at(k.list, found), {}, {Ok: found < n}, at(k.list, found), {Ok: stands < n}, at(k.list, stands), {}}
	for _, quick := range both() {
		r := k.told(t, quick, l)
		if got := r[len(r)-len(want):]; !slices.Equal(got, want) {
			t.Fatalf("%s, quick %t: SeekTo(%d) from %d: %v, want %v", k.name, quick, to, from, got, want)
		}
	}
}

// T4: it never goes back, whatever is asked, and the end is for good.
func TestItNeverGoesBack(t *testing.T) {
	next := mixer(15)
	for _, k := range goods(t) {
		for i, x := range iterators(k.b) {
			begun, ended, last := false, false, int64(0)
			for range 60 {
				ok := false
				if next()%3 == 0 {
					ok = x.Next()
				} else {
					ok = x.SeekTo(askedOf(next, k.list, int(next()>>1)%(len(k.list)+1)))
				}
				at, v := x.At()
				switch {
				case ok && (ended || begun && at < last):
					t.Fatalf("%s, iterator %d: it goes back from %d to %d", k.name, i, last, at)
				case !ok && (at != 0 || v != 0 || x.Err() != nil):
					t.Fatalf("%s, iterator %d: at its end: %d, %d, %v", k.name, i, at, v, x.Err())
				}
				begun, ended, last = begun || ok, !ok, at
			}
		}
	}
}

// chunkEnds tells of each good chunk how many samples there are up to its last one, and how many chunks are decoded at the end.
func (k block) chunkEnds() ([]int, int) {
	kind, chunks, at, _ := indexOf(k.b)
	var ends []int
	n := 0
	for i, e := range chunks {
		if _, code := chunkOf(kind, e, k.b[at:at+e.Len]); code != 0 {
			return ends, i + 1
		}
		at, n = at+e.Len, n+e.Count
		ends = append(ends, n)
	}
	return ends, len(chunks)
}

// checkedAt tells how many chunks layer 19's iterator decodes up to a place: all up to the one at which it stands, none ahead of all; at the end all, or up to the one that isn't good.
func checkedAt(ends []int, most, at int) int {
	if at < 0 {
		return 0
	}
	for i, end := range ends {
		if at < end {
			return i + 1
		}
	}
	return most
}

// holdChecked goes through a block by a script, and holds how many chunks are decoded at every step.
func holdChecked(t *testing.T, k block, l []script.Step) {
	t.Helper()
	x, a := jump.New(k.b), k.account()
	ends, most := k.chunkEnds()
	_, chunks, _, _ := indexOf(k.b)
	before := 0
	for i, s := range append([]script.Step{{}}, l...) {
		var ok bool
		switch s.Op {
		case opNext:
			ok = x.Next()
		case opSeek:
			ok = x.SeekTo(s.T)
		case opAt:
			x.At()
		case opErr:
			x.Err()
		}
		if want := a.reply(s).Ok; ok != want {
			t.Fatalf("%s: step %d, %v: %t", k.name, i, s, ok)
		}
		n := x.Checked()
		if n < before || n > len(chunks) || n != checkedAt(ends, most, a.at) || x.Checked() != n {
			t.Fatalf("%s: step %d, %v: Checked %d behind %d, want %d of %d", k.name, i, s, n, before, checkedAt(ends, most, a.at), len(chunks))
		}
		before = n
	}
}

// T5: at every step Checked is what P19.1 says; it never falls, and is never above how many chunks there are: none is decoded ahead of need.
func TestCheckedAtEveryStep(t *testing.T) {
	next := mixer(16)
	for _, k := range every(t) {
		for _, l := range scripts(next, k.all) {
			holdChecked(t, k, l)
		}
		for _, at := range places(k) {
			holdChecked(t, k, slices.Concat(toPlace(k.list, at, at+1), stays(k, at)))
			for _, s := range goes(k, at) {
				holdChecked(t, k, append(toPlace(k.list, at, at+2), s, anAt(), s, aNext()))
			}
		}
	}
}

// T5: so of any bytes, and of blocks of many chunks.
func TestCheckedOfAnyBytes(t *testing.T) {
	for start := range uint64(2000) {
		next := mixer(start)
		list := walk(start, int(next()%70))
		b := packed(t, 1+int(next()%2), list, 1+int(next()%12))
		if next()%2 == 0 {
			b[int(next()>>1)%len(b)] ^= 1 << (next() % 8)
		}
		holdChecked(t, blockOf(b), anySteps(next, list, 40))
	}
	for _, size := range []int{1, 10, 999} {
		next := mixer(uint64(size))
		list := walk(17, 3000)
		k := block{fmt.Sprint("3000 by ", size), packed(t, api.Xor, list, size), list, 0, list}
		for range 5 {
			holdChecked(t, k, anySteps(next, list, 900))
		}
		holdChecked(t, k, slices.Repeat([]script.Step{aNext()}, 3002))
		holdChecked(t, k, []script.Step{aSeek(list[1500].T), aSeek(list[2999].T), aNext()})
	}
}

// T5: no chunk is decoded twice: that takes memory, and steps within a chunk take none; and none is ahead of need: what is ahead takes none, either.
func TestNoneTwiceAndNoneAheadOfNeed(t *testing.T) {
	const size, chunks = 3000, 6
	for _, kind := range bothKinds() {
		list := even(0, size*chunks, 10)
		b := packed(t, kind, list, size)
		body, err := chunk.Encode(kind, list[:size])
		if err != nil {
			t.Fatal(err)
		}
		one := spent(func() { quick.Decode(kind, body, size) })
		// A script's own replies take memory, too: so all scripts are of as many steps.
		replies := spent(func() { script.Run(nil, true, make([]script.Step, mostSteps)) })
		takes := func(name string, up int, l ...script.Step) {
			t.Helper()
			l = append(l, make([]script.Step, mostSteps-len(l))...)
			got := spent(func() { script.Run(b, true, l) })
			if most := replies + uint64(up)*one + one/2; got > most {
				t.Errorf("kind %d: %s takes %d bytes of memory, %d chunks %d", kind, name, got, up, most)
			}
		}
		takes("no step", 0)
		takes("At and Err", 0, anAt(), anErr())
		takes("Next", 1, aNext())
		takes("Next twice", 1, aNext(), anAt(), aNext())
		for n := 1; n <= chunks; n++ {
			last := list[n*size-1].T
			takes("SeekTo", n, aSeek(last))
			takes("SeekTo of the last one of a chunk", n, aSeek(last-5), aSeek(last), anAt(), anErr())
			takes("many SeekTo", n, slices.Repeat([]script.Step{aSeek(last), aSeek(least), anAt(), anErr()}, mostSteps/4)...)
			takes("Next into a chunk", n, aSeek(last-10), aNext(), anAt())
			takes("Next into the next chunk", min(n+1, chunks), aSeek(last), aNext(), anAt(), aSeek(last+20))
			var turns []script.Step
			for i := range 200 {
				turns = append(turns, aSeek(int64(i)*last/200), aNext(), aSeek(least), anAt())
			}
			takes("SeekTo and Next by turns", n, turns...)
		}
		takes("SeekTo beyond all", chunks, aSeek(greatest), aNext(), aSeek(least), anErr())
	}
}
