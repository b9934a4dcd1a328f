package script_test

import (
	"bytes"
	"math"
	"reflect"
	"slices"
	"testing"

	"gaiter/api"
	"gaiter/batch"
	"gaiter/bits"
	"gaiter/chunk"
	"gaiter/crc"
	"gaiter/cursor"
	"gaiter/dod"
	"gaiter/fill"
	"gaiter/index"
	"gaiter/jump"
	"gaiter/kinds"
	"gaiter/pack"
	"gaiter/quick"
	"gaiter/scan"
	"gaiter/script"
	"gaiter/seq"
	"gaiter/slow"
	"gaiter/tab"
	"gaiter/uvar"
	"gaiter/whole"
	"gaiter/xor"
	"gaiter/zig"
)

// P1, and R2 and R3: the calls of all chapters, at the ends of what their arguments may be, and beyond. None panics; an error is one of those that its chapter names, itself, and whatever else is told with it is the zero value, where the chapter doesn't say otherwise; and what was handed in stays as it was.

// ints tells numbers at the ends, around 0, and around what the chapters name.
func ints() []int {
	l := []int{math.MinInt, math.MinInt + 1, math.MaxInt - 1, math.MaxInt, math.MinInt32, math.MaxInt32, 1 << 32, -1 << 32, 1000, 1001, 65534, 65535, 65536, -65535}
	for _, n := range []int{0, 8, 16, 32, 56, 64, 128, 300} {
		l = append(l, n-1, n, n+1, -n-1)
	}
	for n := range 6 {
		l = append(l, n)
	}
	slices.Sort(l)
	return slices.Compact(l)
}

// words tells numbers of 64 bits.
func words() []uint64 {
	l := []uint64{0, all, mixed, ^mixed, half, half - 1, half + 1}
	for n := range 64 {
		l = append(l, 1<<n, 1<<n-1, ^uint64(1<<n))
	}
	return l
}

// anyBytes tells bytes: none, such as are all alike, mixed ones, codes, and blocks.
func anyBytes(t *testing.T) [][]byte {
	t.Helper()
	l := [][]byte{nil, {}, {0}, {255}, {128}, {1, 0}, {172, 2}, []byte("GTS1"), []byte("123456789"), three(), wide()}
	for _, n := range []int{2, 8, 9, 10, 16, 17, 33, 100} {
		l = append(l, make([]byte, n), bytes.Repeat([]byte{255}, n), bytes.Repeat([]byte{128}, n), bytes.Repeat([]byte{0x5a}, n))
	}
	for start := range uint64(40) {
		next := mixer(start)
		b := make([]byte, next()%70)
		for i := range b {
			b[i] = byte(next() & (next() | uint64(start%2)*255))
		}
		l = append(l, b, summed(b))
		if start < 20 {
			l = append(l, anyBody(next, 1+int(start%2), 40))
		}
	}
	for i, k := range append(none(t), spoilt(t, 2, 3)...) {
		if i%7 == 0 {
			l = append(l, k.b)
		}
	}
	return l
}

// anySamples tells lists of samples: such as rise, and others.
func anySamples() [][]api.Sample {
	l := append(lists(), timed(greatest, least), timed(0, 0), timed(1, 0), timed(5, 6, 6), timed(least, least), timed(greatest, greatest), make([]api.Sample, 65536), make([]api.Sample, 3))
	turned := walk(9, 40)
	slices.Reverse(turned)
	return append(l, turned, walk(9, 40))
}

// trial is a call, and what it was given.
type trial struct {
	t    *testing.T
	name string
	args []any
}

// does makes the call, which must not panic.
func (x trial) does(call func()) {
	x.t.Helper()
	defer func() {
		if p := recover(); p != nil {
			x.t.Fatalf("%s%v panics: %v", x.name, x.args, p)
		}
	}()
	call()
}

// tells holds what a call told: an error is one of these, itself, and with it all others are zero.
func (x trial) tells(err error, codes []api.Code, others ...any) {
	x.t.Helper()
	if err == nil {
		return
	}
	code, ok := err.(api.Code)
	if !ok || !slices.Contains(codes, code) {
		x.t.Fatalf("%s%v: %v is none of %v", x.name, x.args, err, codes)
	}
	for i, v := range others {
		r := reflect.ValueOf(v)
		if !r.IsZero() && !(r.Kind() == reflect.Slice && r.Len() == 0) {
			x.t.Fatalf("%s%v: %v, and with it %d is %v", x.name, x.args, err, i, v)
		}
	}
}

// is fails the test, if this doesn't hold of what a call told.
func (x trial) is(ok bool, told ...any) {
	x.t.Helper()
	if !ok {
		x.t.Fatalf("%s%v: %v", x.name, x.args, told)
	}
}

// keeps fails the test, if a list isn't as it was once the test is done.
func keeps[T comparable](t *testing.T, lists [][]T) {
	t.Helper()
	var before [][]T
	for _, l := range lists {
		before = append(before, slices.Clone(l))
	}
	t.Cleanup(func() {
		for i, l := range lists {
			if !slices.Equal(l, before[i]) {
				t.Errorf("list %d, of %d, is changed", i, len(l))
			}
		}
	})
}

// Layers 1 and 2.
func TestCallsOfBits(t *testing.T) {
	lists := anyBytes(t)
	keeps(t, lists)
	mayBe := []bits.Bits{{}, {B: []byte{160}, N: 3}, {B: []byte{255}, N: 8}, {B: []byte{1, 128}, N: 9}, {B: make([]byte, 9), N: 65}, {B: bytes.Repeat([]byte{255}, 100), N: 800}}
	for _, x := range mayBe {
		for _, y := range mayBe {
			c := trial{t, "Join", []any{x, y}}
			c.does(func() { c.is(bits.Join(x, y).N == x.N+y.N) })
		}
		for _, n := range ints() {
			for _, v := range words() {
				c := trial{t, "Put", []any{x, v, n}}
				c.does(func() {
					z := bits.Put(x, v, n)
					if n < 0 || n > 64 {
						c.is(z.N == x.N && bytes.Equal(z.B, x.B), z)
					} else {
						c.is(z.N == x.N+n && len(z.B) == (z.N+7)/8, z)
					}
				})
			}
		}
	}
	for _, b := range lists {
		for _, n := range ints() {
			for _, at := range append(ints(), 8*len(b)-n, 8*len(b)-n+1, 8*len(b)) {
				c := trial{t, "Take", []any{b, at, n}}
				c.does(func() {
					v, ok := bits.Take(b, at, n)
					c.is(ok == (n >= 0 && n <= 64 && at >= 0 && at <= 8*len(b) && n <= 8*len(b)-at) && (ok || v == 0), v, ok)
				})
			}
			for _, skip := range []int{0, 1, 7, 8, 63, 8*len(b) - 1, 8 * len(b)} {
				readBits(t, b, skip, n)
			}
		}
	}
}

// readBits calls layer 2's calls, where some bits are behind the reader.
func readBits(t *testing.T, b []byte, skip, n int) {
	t.Helper()
	c := trial{t, "Reader", []any{b, skip, n}}
	c.does(func() {
		r := fill.New(b)
		c.is(r.Left() == 8*len(b) && r.Skip(skip) == (skip >= 0 && skip <= 8*len(b)), "Skip")
		left := r.Left()
		v := r.Peek(n)
		c.is(n >= 0 && n <= 56 || v == 0, "Peek", v)
		c.is(r.Left() == left, "Peek goes on")
		w, ok := r.Read(n)
		c.is(ok == (n >= 0 && n <= 64 && n <= left) && (ok || w == 0 && r.Left() == left), "Read", w, ok)
		left = r.Left()
		ok = r.Skip(n)
		c.is(ok == (n >= 0 && n <= left) && (ok || r.Left() == left), "Skip", ok)
	})
}

// Layers 3 to 7.
func TestCallsOfCodes(t *testing.T) {
	lists := anyBytes(t)
	keeps(t, lists)
	codes := []api.Code{api.ErrShort, api.ErrForm}
	for _, v := range words() {
		c := trial{t, "of a number", []any{v}}
		c.does(func() {
			b := uvar.Put(v)
			w, n, err := uvar.Get(b, 0)
			c.is(w == v && n == len(b) && err == nil, w, n, err)
			c.is(zig.Zig(zig.Zag(v)) == v && zig.Zag(zig.Zig(int64(v))) == int64(v), "Zig, Zag")
			x := dod.Code(int64(v))
			y, n, err := dod.Get(x.B, 0)
			c.is(y == int64(v) && n == x.N && err == nil, y, n, err)
			z, err := tab.Get(fill.New(x.B))
			c.is(z == int64(v) && err == nil, z, err)
			for _, s := range states() {
				x, next := xor.Code(s, v)
				w, behind, n, err := xor.Get(s, x.B, 0)
				c.is(w == v && behind == next && n == x.N && err == nil, s, w, n, err)
			}
		})
	}
	trial{t, "Table", nil}.does(func() {
		if n := len(tab.Table()); n != 256 {
			t.Fatalf("%d rows", n)
		}
	})
	for _, b := range lists {
		for _, at := range append(ints(), 8*len(b)-1, 8*len(b), len(b), len(b)-1, len(b)+1) {
			c := trial{t, "Get", []any{b, at}}
			c.does(func() {
				v, n, err := uvar.Get(b, at)
				c.tells(err, codes, v, n)
				x, n, err := dod.Get(b, at)
				c.tells(err, codes, x, n)
				r := fill.New(b)
				if at >= 0 && r.Skip(at) {
					y, errY := tab.Get(r)
					c.tells(errY, codes, y)
					c.is(y == x && (err == nil) == (errY == nil), y, errY)
				}
				for _, s := range states() {
					v, next, n, err := xor.Get(s, b, at)
					c.tells(err, codes, v, next, n)
				}
			})
		}
	}
}

// states tells states of layer 7 that may be.
func states() []xor.State {
	return []xor.State{{}, {Prev: all}, {Prev: mixed, Len: 64}, {Len: 1}, {Lead: 63, Len: 1, Prev: 5}, {Lead: 8, Len: 16, Prev: half}, {Lead: 32, Len: 32}}
}

// behind tells states of layer 8 that calls tell, from the one of 0s on.
func behind(kind int) []kinds.State {
	l := []kinds.State{{}}
	for _, list := range [][]api.Sample{timed(least, greatest), timed(greatest), even(-5, 40, 3), walk(8, 12), timed(edgeTimes()...)} {
		var s kinds.State
		for i, x := range list {
			var err error
			if _, s, err = kinds.Put(kind, s, x); err != nil {
				return nil
			}
			if i%6 == 0 || i == len(list)-1 {
				l = append(l, s)
			}
		}
	}
	return l
}

// Layer 8: of both kinds, and of none.
func TestCallsOfKinds(t *testing.T) {
	lists := anyBytes(t)
	keeps(t, lists)
	for _, kind := range ints() {
		known := kind == api.Xor || kind == api.Ints
		put, get := []api.Code{api.ErrOrder}, []api.Code{api.ErrShort, api.ErrForm, api.ErrOrder}
		states := behind(kind)
		if !known {
			put, get, states = []api.Code{api.ErrKind}, []api.Code{api.ErrKind}, behind(api.Xor)[:2]
		}
		for _, s := range states {
			for _, x := range timed(edgeTimes()...) {
				c := trial{t, "Put", []any{kind, s, x}}
				c.does(func() {
					b, next, err := kinds.Put(kind, s, x)
					c.tells(err, put, b, next)
					c.is((err == nil) == (known && (s.N == 0 || x.T > s.T)), err)
					if err == nil {
						y, behind, n, err := kinds.Get(kind, s, b.B, 0)
						c.is(y == x && behind == next && n == b.N && err == nil, y, n, err)
						c.is(kinds.After(kind, s, x, next.X) == next, "After")
					}
				})
			}
			for i, b := range lists {
				for _, at := range append(someInts(i), 8*len(b)-64, 8*len(b)-1, 8*len(b)) {
					c := trial{t, "Get", []any{kind, s, b, at}}
					c.does(func() {
						x, next, n, err := kinds.Get(kind, s, b, at)
						c.tells(err, get, x, next, n)
						c.is(known || err != nil, err)
					})
				}
			}
		}
	}
}

// someInts tells some of the numbers, and always the ends.
func someInts(start int) []int {
	l := []int{math.MinInt, -1, 0, 1, math.MaxInt - 1, math.MaxInt}
	for i, n := range ints() {
		if (i+start)%6 == 0 {
			l = append(l, n)
		}
	}
	return l
}

// Layers 9 to 12.
func TestCallsOfSamples(t *testing.T) {
	lists, samples := anyBytes(t), anySamples()
	keeps(t, lists)
	keeps(t, samples)
	for _, kind := range ints() {
		for _, l := range samples {
			c := trial{t, "Encode", []any{kind, len(l)}}
			c.does(func() {
				b, err := chunk.Encode(kind, l)
				c.tells(err, []api.Code{api.ErrArg, api.ErrKind, api.ErrOrder}, b)
			})
		}
		for i, b := range lists {
			for _, n := range someInts(i) {
				decodes(t, kind, b, n)
			}
		}
	}
}

// decodes calls layers 10 to 12. With an error of theirs samples are told, too: so only that they are no more than are asked for, and those of both layers.
func decodes(t *testing.T, kind int, b []byte, n int) {
	t.Helper()
	c := trial{t, "Decode", []any{kind, b, n}}
	codes := []api.Code{api.ErrArg, api.ErrKind, api.ErrShort, api.ErrForm, api.ErrOrder}
	c.does(func() {
		x, err := slow.Decode(kind, b, n)
		y, errY := quick.Decode(kind, b, n)
		c.tells(err, codes)
		c.tells(errY, codes)
		c.is(slices.Equal(x, y) && codeOf(err) == codeOf(errY) && len(x) <= max(n, 0), x, err, y, errY)
		c.is(err != nil || len(x) == n, x)
		z, s, errZ := batch.Next(kind, fill.New(b), kinds.State{}, n)
		c.tells(errZ, codes[1:])
		c.is(len(z) <= max(0, min(n, 32)) && s.N == len(z), z, s)
		if n > 0 && n <= 65535 {
			c.is(slices.Equal(z, x[:min(len(x), 32)]), z, x)
		}
	})
}

// codeOf tells an error's number, or 0.
func codeOf(err error) api.Code {
	code, _ := err.(api.Code)
	return code
}

// heads tells indices that may be, and such as may not.
func heads() []index.Head {
	var l []index.Head
	for _, kind := range ints() {
		l = append(l, index.Head{Kind: kind}, index.Head{Kind: kind, List: []index.Entry{{Count: 1, Len: 4}}})
	}
	for _, n := range ints() {
		l = append(l, index.Head{Kind: 1, List: []index.Entry{{Count: n, Len: 4}}}, index.Head{Kind: 2, List: []index.Entry{{Count: 1, Len: n}}})
	}
	for _, x := range edgeTimes() {
		for _, y := range edgeTimes() {
			one := index.Entry{Min: x, Max: y, Count: 1, Len: 4}
			two := []index.Entry{{Min: least, Max: x, Count: 65535, Len: 1<<31 - 1}, {Min: y, Max: greatest, Count: 1, Len: 4}}
			l = append(l, index.Head{Kind: 1, List: []index.Entry{one}}, index.Head{Kind: 2, List: two})
		}
	}
	var many []index.Entry
	for i := range int64(65536) {
		many = append(many, index.Entry{Min: i, Max: i, Count: 1, Len: 4})
	}
	return append(l, index.Head{Kind: 1, List: many[1:]}, index.Head{Kind: 1, List: many})
}

// Layers 13 to 16.
func TestCallsOfBlocks(t *testing.T) {
	lists, samples := anyBytes(t), anySamples()
	keeps(t, lists)
	keeps(t, samples)
	for _, h := range heads() {
		before := slices.Clone(h.List)
		c := trial{t, "Put", []any{h.Kind, h.List[:min(2, len(h.List))]}}
		c.does(func() {
			b, err := index.Put(h)
			c.tells(err, []api.Code{api.ErrArg}, b)
			c.is(slices.Equal(h.List, before), "the list is changed")
		})
	}
	for _, kind := range ints() {
		for i, l := range samples {
			for _, size := range someInts(i) {
				c := trial{t, "Pack", []any{kind, short(l), size}}
				c.does(func() {
					b, err := pack.Pack(kind, l, size)
					c.tells(err, []api.Code{api.ErrArg, api.ErrKind, api.ErrOrder, api.ErrLarge}, b)
				})
			}
		}
	}
	get := []api.Code{api.ErrMagic, api.ErrShort, api.ErrKind, api.ErrForm, api.ErrLarge, api.ErrSum, api.ErrIndex}
	for i, b := range lists {
		c := trial{t, "of bytes", []any{b}}
		c.does(func() {
			crc.Sum(b)
			h, n, err := index.Get(b)
			c.tells(err, get, h, n)
			l, errL := whole.Decode(b)
			c.tells(errL, append(get, api.ErrOrder))
			c.is(err == nil || len(l) == 0 && codeOf(errL) == codeOf(err), l, errL)
		})
		chunks(t, b, i)
	}
}

// chunks calls layer 16's Chunk of bytes that an index tells anything of.
func chunks(t *testing.T, b []byte, start int) {
	t.Helper()
	codes := []api.Code{api.ErrArg, api.ErrSum, api.ErrKind, api.ErrShort, api.ErrForm, api.ErrOrder, api.ErrIndex}
	for _, kind := range someInts(start) {
		for _, count := range someInts(start + 1) {
			for _, size := range append(someInts(start+2), len(b), len(b)-1) {
				for _, ends := range [][2]int64{{0, 0}, {least, greatest}, {greatest, least}} {
					e := index.Entry{Min: ends[0], Max: ends[1], Count: count, Len: size}
					c := trial{t, "Chunk", []any{kind, e, b}}
					c.does(func() {
						l, err := whole.Chunk(kind, e, b)
						c.tells(err, codes, l)
						c.is(err == nil || size == len(b) && size >= 4 || codeOf(err) == api.ErrArg, err)
					})
				}
			}
		}
	}
}

// Layer 17, of lists that rise, and any times.
func TestCallsOfCursors(t *testing.T) {
	samples := append(lists(), walk(9, 40))
	keeps(t, samples)
	for i, l := range samples {
		for _, bad := range []error{nil, api.ErrSum} {
			c := trial{t, "Cursor", []any{short(l), bad}}
			c.does(func() {
				x := cursor.New(l, bad)
				for j := range len(l) + 20 {
					a, v := cursor.Look(x)
					err := cursor.Err(x)
					c.is(!x.Done || a == 0 && v == 0 && codeOf(err) == codeOf(bad), a, v, err)
					var ok bool
					if to := edgeTimes()[(i+j)%19]; (i+j)%3 == 0 {
						x, ok = cursor.Seek(x, to)
					} else {
						x, ok = cursor.Next(x)
					}
					c.is(ok != x.Done && x.At <= len(l), x.At, x.Done, ok)
				}
			})
		}
	}
}

// Layers 18 to 21, of any bytes, any times, any numbers, and any steps.
func TestCallsOfIterators(t *testing.T) {
	lists := anyBytes(t)
	keeps(t, lists)
	next := mixer(51)
	for _, b := range lists {
		for i, n := range ints() {
			for j, x := range []api.Iterator{scan.New(b), jump.New(b)} {
				to, from := edgeTimes()[i%19], edgeTimes()[(i*7+1)%19]
				c := trial{t, "an iterator", []any{j, b, n, from, to}}
				c.does(func() {
					x.At()
					x.Err()
					l := seq.Collect(x, n)
					c.is(len(l) <= max(n, 0), l)
					seq.Between(x, from, to)
					x.SeekTo(from)
					for range seq.All(x) {
						x.At()
					}
					c.is(!x.Next() && !x.SeekTo(to), "it goes on")
					if y, ok := x.(*jump.Iterator); ok {
						c.is(y.Checked() >= 0, y.Checked())
					}
				})
			}
			steps := anySteps(next, nil, 5)
			steps = append(steps, script.Step{Op: n, T: int64(n)})
			c := trial{t, "Run", []any{b, steps}}
			c.does(func() {
				for _, quick := range both() {
					r, err := script.Run(b, quick, steps)
					c.is(err == nil && len(r) == len(steps), r, err)
				}
				if n > 0 && n < 1<<17 {
					r, err := script.Run(b, n%2 == 0, make([]script.Step, n))
					c.tells(err, []api.Code{api.ErrLarge}, r)
					c.is((err == nil) == (n <= 1000), err)
				}
			})
		}
	}
}

// R1: where several errors apply, the one that is named first is told.
func TestTheFirstErrorIsTold(t *testing.T) {
	fallen := timed(5, 4)
	b := []byte("no block, no codes")
	tell := func(name string, err error, want api.Code) {
		t.Helper()
		if !isCode(err, want) {
			t.Errorf("%s: %v, want %d", name, err, int(want))
		}
	}
	_, err := chunk.Encode(0, nil)
	tell("Encode of none, and no kind", err, api.ErrArg)
	_, err = chunk.Encode(3, fallen)
	tell("Encode of no kind, and times that don't rise", err, api.ErrKind)
	_, err = slow.Decode(0, b, 0)
	tell("slow.Decode of no count, and no kind", err, api.ErrArg)
	_, err = slow.Decode(0, nil, 1)
	tell("slow.Decode of no kind, and no bytes", err, api.ErrKind)
	_, err = quick.Decode(0, b, 65536)
	tell("quick.Decode of no count, and no kind", err, api.ErrArg)
	_, err = quick.Decode(0, nil, 1)
	tell("quick.Decode of no kind, and no bytes", err, api.ErrKind)
	_, _, err = kinds.Put(0, kinds.State{N: 1, T: 5}, api.Sample{T: 4})
	tell("Put of no kind, and times that don't rise", err, api.ErrKind)
	_, _, _, err = kinds.Get(0, kinds.State{}, nil, -1)
	tell("Get of no kind, and no bits", err, api.ErrKind)
	_, err = pack.Pack(0, fallen, 0)
	tell("Pack of no size, no kind, and times that don't rise", err, api.ErrArg)
	_, err = pack.Pack(0, fallen, 1)
	tell("Pack of no kind, and times that don't rise", err, api.ErrKind)
	_, err = pack.Pack(1, make([]api.Sample, 65536), 1)
	tell("Pack of times that don't rise, and too many", err, api.ErrOrder)
	_, err = whole.Chunk(0, index.Entry{Len: 3}, b)
	tell("Chunk of another Len, and all else", err, api.ErrArg)
	_, err = whole.Chunk(0, index.Entry{Len: len(b)}, b)
	tell("Chunk of another sum, no count, and no kind", err, api.ErrSum)
	_, err = script.Run(b, false, make([]script.Step, 1001))
	tell("Run of too many steps, of bytes that are no block", err, api.ErrLarge)
	_, err = script.Run(b, true, make([]script.Step, 1001))
	tell("Run of too many steps, of bytes that are no block, quick", err, api.ErrLarge)
}
