package cursor_test

import (
	"errors"
	"fmt"
	"math"
	"reflect"
	"slices"
	"sync"
	"testing"

	"gaiter/api"
	"gaiter/cursor"
)

// The tests hold the calls against answers written out, and against a plain account of P17.1's words; of cursors that New and these calls told, and of samples whose times rise, as of others nothing is said.

const (
	least    = math.MinInt64
	greatest = math.MaxInt64
	all      = uint64(math.MaxUint64)
	half     = uint64(1) << 63
	mixed    = uint64(0x0123456789abcdef)
)

// account is what P17.1's words say of a cursor; its samples are its own, so that a call that changes a cursor's samples is seen.
type account struct {
	list []api.Sample
	bad  error
	at   int
	done bool
}

func begin(list []api.Sample, bad error) account {
	return account{list: slices.Clone(list), bad: bad, at: -1}
}

func (a account) next() (account, bool) {
	if a.done {
		return a, false
	}
	if a.at == len(a.list)-1 {
		a.done = true
		return a, false
	}
	a.at++
	return a, true
}

func (a account) seek(t int64) (account, bool) {
	if a.done {
		return a, false
	}
	if a.at != -1 && a.list[a.at].T >= t {
		return a, true
	}
	for i, x := range a.list {
		if i > a.at && x.T >= t {
			a.at = i
			return a, true
		}
	}
	a.done = true
	return a, false
}

func (a account) look() (int64, uint64) {
	if a.done || a.at == -1 {
		return 0, 0
	}
	return a.list[a.at].T, a.list[a.at].V
}

func (a account) err() error {
	if a.done {
		return a.bad
	}
	return nil
}

// holds tells whether a cursor is as the account says, in all that is to be seen of it but its samples.
func (a account) holds(c cursor.Cursor) bool {
	if c.At != a.at || c.Done != a.done || len(c.List) != len(a.list) || !sameError(c.Bad, a.bad) {
		return false
	}
	x, v := cursor.Look(c)
	wantX, wantV := a.look()
	return x == wantX && v == wantV && sameError(cursor.Err(c), a.err())
}

// text tells a cursor as far as a test's output needs it.
func text(c cursor.Cursor) string {
	return fmt.Sprintf("{%s, %v, At %d, Done %t}", short(c.List), c.Bad, c.At, c.Done)
}

// short tells a list as far as a test's output needs it.
func short(list []api.Sample) string {
	return fmt.Sprintf("%d samples from %v", len(list), list[:min(4, len(list))])
}

// hold fails the test, if a cursor isn't as the account says, or what was answered with it isn't this.
func hold(t *testing.T, name string, c cursor.Cursor, ok bool, a account, wantOK bool) {
	t.Helper()
	if ok != wantOK || !a.holds(c) {
		x, v := cursor.Look(c)
		t.Fatalf("%s: %s, %t, Look %d, %d, Err %v; want At %d, Done %t, %t, of %s, %v",
			name, text(c), ok, x, v, cursor.Err(c), a.at, a.done, wantOK, short(a.list), a.bad)
	}
	if len(a.list) <= 200 && !slices.Equal(c.List, a.list) {
		t.Fatalf("%s: %s; want %s", name, text(c), short(a.list))
	}
}

// both is a cursor, and its account.
type both struct {
	c cursor.Cursor
	a account
}

// fresh tells a cursor ahead of all; the samples' times must rise.
func fresh(t *testing.T, list []api.Sample, bad error) both {
	t.Helper()
	for i := 1; i < len(list); i++ {
		if list[i].T <= list[i-1].T {
			t.Fatalf("%s: the %d-th time doesn't rise", short(list), i)
		}
	}
	x := both{cursor.New(list, bad), begin(list, bad)}
	hold(t, "New", x.c, true, x.a, true)
	return x
}

// next goes to the next sample, and holds the answer against the account's.
func (x both) next(t *testing.T) both {
	t.Helper()
	c, ok := cursor.Next(x.c)
	a, wantOK := x.a.next()
	hold(t, "Next("+text(x.c)+")", c, ok, a, wantOK)
	return both{c, a}
}

// seek seeks, and holds the answer against the account's.
func (x both) seek(t *testing.T, to int64) both {
	t.Helper()
	c, ok := cursor.Seek(x.c, to)
	a, wantOK := x.a.seek(to)
	if ok != wantOK || !a.holds(c) {
		hold(t, fmt.Sprintf("Seek(%s, %d)", text(x.c), to), c, ok, a, wantOK)
	}
	return both{c, a}
}

// own is an error of the tests' own, which may be handed in as a nil pointer.
type own struct{ n int }

func (x *own) Error() string { return "own" }

// many is an error that can't be held against another by ==.
type many []int

func (x many) Error() string { return "many" }

// sameError tells whether two errors are one, the value itself.
func sameError(a, b error) bool {
	if a == nil || b == nil {
		return a == nil && b == nil
	}
	if x, ok := a.(many); ok {
		y, ok := b.(many)
		return ok && len(x) == len(y) && &x[0] == &y[0]
	}
	return reflect.TypeOf(a) == reflect.TypeOf(b) && a == b
}

// bads tells no error, all of api's, and others.
func bads() []error {
	list := []error{nil, api.ErrArg, api.ErrShort, api.ErrForm, api.ErrOrder, api.ErrMagic, api.ErrKind, api.ErrSum, api.ErrIndex, api.ErrLarge}
	// Numbers that are no error of api's are errors all the same, also 0; so are a nil pointer, and what wraps another one.
	var none *own
	list = append(list, api.Code(0), api.Code(-1), api.Code(10), none, &own{}, &own{3}, many{1, 2}, many{1, 2})
	return append(list, errors.New("other"), fmt.Errorf("about: %w", api.ErrSum), errors.Join(api.ErrSum, api.ErrForm))
}

// mixer tells numbers that hang on a start alone, the lowest bits as mixed as the highest ones.
func mixer(start uint64) func() uint64 {
	v := start
	return func() uint64 {
		v = v*6364136223846793005 + 1442695040888963407
		x := v
		x ^= x >> 32
		x *= 0xd6e8feb86659fd93
		return x ^ x>>32
	}
}

// of tells samples of these times; their values are 0, all bits 1, mixed ones, and such as stand twice.
func of(times ...int64) []api.Sample {
	next := mixer(uint64(len(times)))
	list := make([]api.Sample, len(times))
	for i, x := range times {
		v := []uint64{mixed, 0, all, 1, half, uint64(x), next(), next()}[(i+len(times))%8]
		list[i] = api.Sample{T: x, V: v}
	}
	return list
}

// even tells n samples from a time on, so many apart.
func even(from int64, n int, step int64) []api.Sample {
	times := make([]int64, n)
	for i := range times {
		times[i] = from + int64(i)*step
	}
	return of(times...)
}

// walk tells n samples of rising times, from anywhere on: steps of 1, small ones, and as great ones as n of them have room.
func walk(start uint64, n int) []api.Sample {
	next := mixer(start)
	room := all/uint64(n+1) - 1
	x := int64(half + next()%room)
	times := make([]int64, n)
	for i := range times {
		times[i] = x
		switch next() % 4 {
		case 0:
			x++
		case 1:
			x += 1 + int64(next()%9)
		default:
			x += int64(1 + next()>>(next()%64)%room)
		}
	}
	return of(times...)
}

// edgeTimes tells times that rise, near the ends, around 0, and between.
func edgeTimes() []int64 {
	return []int64{least, least + 1, least + 64, -1 << 62, -1<<32 - 1, -1 << 32, -300, -2, -1, 0, 1, 2, 63, 128, 16384, 1 << 31, 1 << 62, greatest - 1, greatest}
}

// lists tells lists of samples whose times rise: none, few, and some more.
func lists() [][]api.Sample {
	l := [][]api.Sample{nil, {}, of(least, -1, 0, greatest), of(edgeTimes()...), of(edgeTimes()[3:16]...)}
	for i, x := range edgeTimes() {
		l = append(l, of(x), []api.Sample{{T: x}}, []api.Sample{{T: x, V: all}})
		if i > 0 {
			l = append(l, of(edgeTimes()[i-1], x))
		}
	}
	for _, n := range []int{2, 3, 4, 5, 7, 8, 9, 31, 32, 33, 34, 63, 64, 65} {
		l = append(l, even(-int64(n)/2, n, 1), even(-1000*int64(n)/2, n, 1000), even(least, n, 3), walk(uint64(n), n))
	}
	return append(l, even(greatest-32, 33, 1), even(least, 33, 1), even(greatest-64, 33, 2))
}

// asked tells times to seek: the ends, those of the samples, one below and one above each, between them, and far from them.
func asked(list []api.Sample) []int64 {
	l := append(edgeTimes(), least+2, greatest-2, 1<<32, 1<<33, math.MaxInt32, math.MinInt32)
	for i, x := range list {
		l = append(l, x.T, x.T+1, x.T-1, x.T+1<<32, x.T-1<<32, ^x.T, -x.T, x.T^least)
		if i > 0 {
			l = append(l, x.T-int64(uint64(x.T-list[i-1].T)/2))
		}
	}
	slices.Sort(l)
	return slices.Compact(l)
}

// standing tells cursors, one ahead of all, and one at each sample, by Next alone.
func standing(t *testing.T, list []api.Sample, bad error) []both {
	t.Helper()
	l := []both{fresh(t, list, bad)}
	for i := range list {
		x := l[i].next(t)
		if x.c.At != i {
			t.Fatalf("%s: want At %d", text(x.c), i)
		}
		l = append(l, x)
	}
	return l
}

// ended tells cursors at their end: through all samples, and, where a time is above all of them, from ahead of all and from each.
func ended(t *testing.T, list []api.Sample, bad error) []both {
	t.Helper()
	from := standing(t, list, bad)
	l := []both{from[len(list)].next(t)}
	if len(list) == 0 {
		l = append(l, from[0].seek(t, least), from[0].seek(t, 0))
	}
	if len(list) == 0 || list[len(list)-1].T < greatest {
		for _, x := range from {
			l = append(l, x.seek(t, greatest))
		}
	}
	for _, x := range l {
		if !x.c.Done {
			t.Fatalf("%s: want its end", text(x.c))
		}
	}
	return l
}

// New tells a cursor ahead of all, of what was handed in, which tells nothing yet.
func TestNew(t *testing.T) {
	for _, list := range lists() {
		for _, bad := range bads() {
			c := cursor.New(list, bad)
			if c.At != -1 || c.Done || !slices.Equal(c.List, list) || !sameError(c.Bad, bad) {
				t.Fatalf("New(%s, %v): %s", short(list), bad, text(c))
			}
			if x, v := cursor.Look(c); x != 0 || v != 0 {
				t.Fatalf("Look(%s): %d, %d", text(c), x, v)
			}
			if err := cursor.Err(c); err != nil {
				t.Fatalf("Err(%s): %v", text(c), err)
			}
		}
	}
}

// call is a call, and what it must answer.
type call struct {
	next bool
	t    int64
	ok   bool
	at   int
	done bool
	x    int64
	v    uint64
}

// to is Seek of a time, answered true.
func to(t int64, at int, x int64, v uint64) call { return call{t: t, ok: true, at: at, x: x, v: v} }

// on is Next, answered true.
func on(at int, x int64, v uint64) call { return call{next: true, ok: true, at: at, x: x, v: v} }

// off is Next, answered false.
func off(at int) call { return call{next: true, at: at, done: true} }

// beyond is Seek of a time, answered false.
func beyond(t int64, at int) call { return call{t: t, at: at, done: true} }

// run is calls, one of what the other told.
type run struct {
	list  []api.Sample
	calls []call
}

// runs tells calls, and their answers, written out.
func runs() []run {
	few := []api.Sample{{T: 5, V: 50}, {T: 8, V: 80}, {T: 20, V: 200}}
	wide := []api.Sample{{T: least, V: 0}, {T: -1, V: all}, {T: 0, V: mixed}, {T: greatest, V: half}}
	dense := []api.Sample{{T: -1, V: 7}, {T: 0, V: 7}, {T: 1, V: 0}, {T: 2, V: 8}}
	return []run{
		{nil, []call{off(-1), off(-1), beyond(0, -1), off(-1)}},
		{nil, []call{beyond(least, -1), beyond(greatest, -1), off(-1)}},
		{[]api.Sample{}, []call{beyond(greatest, -1), beyond(least, -1), off(-1)}},
		{[]api.Sample{}, []call{off(-1), beyond(least, -1)}},
		{few[:1], []call{on(0, 5, 50), off(0), off(0), beyond(5, 0)}},
		{few[:1], []call{to(5, 0, 5, 50), to(least, 0, 5, 50), beyond(6, 0), beyond(5, 0), off(0)}},
		{few[:1], []call{to(least, 0, 5, 50), off(0)}},
		{few[:1], []call{beyond(6, -1), beyond(5, -1), off(-1)}},
		{few, []call{on(0, 5, 50), on(1, 8, 80), on(2, 20, 200), off(2), off(2), beyond(least, 2), beyond(20, 2), off(2)}},
		{few, []call{to(5, 0, 5, 50), to(6, 1, 8, 80), to(8, 1, 8, 80), to(9, 2, 20, 200), to(20, 2, 20, 200), beyond(21, 2), beyond(20, 2), off(2)}},
		{few, []call{to(4, 0, 5, 50), to(7, 1, 8, 80), to(-7, 1, 8, 80), to(least, 1, 8, 80), on(2, 20, 200), to(6, 2, 20, 200), off(2)}},
		{few, []call{to(9, 2, 20, 200), to(5, 2, 20, 200), off(2)}},
		{few, []call{to(8, 1, 8, 80), beyond(21, 1), beyond(20, 1), beyond(8, 1), beyond(least, 1), off(1)}},
		{few, []call{on(0, 5, 50), beyond(greatest, 0), beyond(5, 0), off(0), off(0)}},
		{few, []call{beyond(21, -1), beyond(20, -1), beyond(least, -1), off(-1)}},
		{wide, []call{to(least, 0, least, 0), to(least, 0, least, 0), to(least+1, 1, -1, all), to(-1, 1, -1, all), to(0, 2, 0, mixed), to(1, 3, greatest, half), to(greatest, 3, greatest, half), off(3)}},
		{wide, []call{on(0, least, 0), on(1, -1, all), on(2, 0, mixed), on(3, greatest, half), to(least, 3, greatest, half), off(3), beyond(greatest, 3)}},
		{wide, []call{to(greatest, 3, greatest, half), to(0, 3, greatest, half), off(3), beyond(least, 3)}},
		{wide, []call{on(0, least, 0), to(greatest, 3, greatest, half)}},
		{wide, []call{to(-2, 1, -1, all), on(2, 0, mixed), to(greatest-1, 3, greatest, half), off(3)}},
		{wide[:3], []call{on(0, least, 0), beyond(greatest, 0), beyond(least, 0)}},
		{dense, []call{to(-1, 0, -1, 7), to(0, 1, 0, 7), to(1, 2, 1, 0), to(2, 3, 2, 8), beyond(3, 3), beyond(2, 3)}},
		{dense, []call{to(-2, 0, -1, 7), to(-1, 0, -1, 7), on(1, 0, 7), to(-1, 1, 0, 7), to(2, 3, 2, 8), off(3)}},
	}
}

// The calls tell what is written out, one of what the other told; Bad at the end, whatever it is, and only there.
func TestWrittenOut(t *testing.T) {
	for i, r := range runs() {
		for _, bad := range bads() {
			c := cursor.New(r.list, bad)
			for k, s := range r.calls {
				var ok bool
				if s.next {
					c, ok = cursor.Next(c)
				} else {
					c, ok = cursor.Seek(c, s.t)
				}
				x, v := cursor.Look(c)
				if ok != s.ok || c.At != s.at || c.Done != s.done || x != s.x || v != s.v {
					t.Fatalf("run %d, call %d: %s, %t, Look %d, %d; want %+v", i, k, text(c), ok, x, v, s)
				}
				var want error
				if s.done {
					want = bad
				}
				if !sameError(cursor.Err(c), want) || !sameError(c.Bad, bad) || !slices.Equal(c.List, r.list) {
					t.Fatalf("run %d, call %d: %s, Err %v; want %v", i, k, text(c), cursor.Err(c), want)
				}
			}
		}
	}
}

// Next goes through all samples, by one each, and is at the end then, for good.
func TestNext(t *testing.T) {
	for _, list := range lists() {
		for _, bad := range []error{nil, api.ErrForm} {
			c := cursor.New(list, bad)
			for i, want := range list {
				var ok bool
				c, ok = cursor.Next(c)
				x, v := cursor.Look(c)
				if !ok || c.At != i || c.Done || x != want.T || v != want.V || cursor.Err(c) != nil {
					t.Fatalf("%s: the %d-th Next: %s, %t, Look %d, %d, Err %v; want %v", short(list), i, text(c), ok, x, v, cursor.Err(c), want)
				}
			}
			for range 5 {
				var ok bool
				c, ok = cursor.Next(c)
				x, v := cursor.Look(c)
				if ok || c.At != len(list)-1 || !c.Done || x != 0 || v != 0 || !sameError(cursor.Err(c), bad) {
					t.Fatalf("%s: Next behind the last one: %s, %t, Look %d, %d, Err %v", short(list), text(c), ok, x, v, cursor.Err(c))
				}
			}
		}
	}
}

// From ahead of all, and from each sample, Seek tells of each time where it stands, if that is enough, or the first one behind it, or the end.
func TestSeekFromEach(t *testing.T) {
	for _, list := range lists() {
		times := asked(list)
		for i, x := range standing(t, list, api.ErrShort) {
			for _, to := range times {
				want := max(i-1, 0)
				for want < len(list) && list[want].T < to {
					want++
				}
				y := x.seek(t, to)
				if (want < len(list)) == y.c.Done || !y.c.Done && y.c.At != want || y.c.Done && y.c.At != i-1 {
					t.Fatalf("Seek(%s, %d): %s; want %d", text(x.c), to, text(y.c), want)
				}
			}
		}
	}
}

// It is the same from where Seek told the cursor, and Next goes on from there.
func TestSeekBehindSeek(t *testing.T) {
	for _, list := range lists() {
		if len(list) > 34 {
			continue
		}
		times := asked(list)
		for _, first := range times {
			x := fresh(t, list, api.ErrOrder).seek(t, first)
			x.next(t).next(t)
			for _, second := range times {
				x.seek(t, second)
			}
			if !x.c.Done {
				x.seek(t, list[x.c.At].T).next(t).seek(t, first)
			}
		}
	}
}

// Where a cursor stands, it stays by Seek of its own time, and of all below; only by a time above it it goes on.
func TestSeekStays(t *testing.T) {
	for _, list := range lists() {
		times := asked(list)
		for i, x := range standing(t, list, api.ErrSum)[1:] {
			for _, to := range times {
				c, ok := cursor.Seek(x.c, to)
				if stays := !c.Done && c.At == i; stays != (to <= list[i].T) || stays && !ok {
					t.Fatalf("Seek(%s, %d): %s, %t", text(x.c), to, text(c), ok)
				}
			}
		}
	}
}

// At its end a cursor answers false, and all stays, whatever is called, also for times that samples would meet.
func TestTheEndIsForGood(t *testing.T) {
	for _, list := range lists() {
		times := asked(list)
		for k, x := range ended(t, list, bads()[len(list)%len(bads())]) {
			for i, to := range times {
				if c, ok := cursor.Seek(x.c, to); ok || !x.a.holds(c) || !c.Done || c.At != x.c.At {
					t.Fatalf("Seek(%s, %d): %s, %t", text(x.c), to, text(c), ok)
				}
				if c, ok := cursor.Next(x.c); ok || !x.a.holds(c) || !c.Done || c.At != x.c.At {
					t.Fatalf("Next(%s): %s, %t", text(x.c), text(c), ok)
				}
				if i%7 == k%7 {
					x.seek(t, to).next(t).next(t).seek(t, least).seek(t, to).seek(t, greatest).next(t)
				}
			}
		}
	}
}

// A cursor's end tells how far it was: At stays, be it by Next or by Seek.
func TestAtStaysAtTheEnd(t *testing.T) {
	for _, list := range lists() {
		if len(list) > 0 && list[len(list)-1].T == greatest {
			continue
		}
		for i, x := range standing(t, list, api.ErrLarge) {
			c, ok := cursor.Seek(x.c, greatest)
			if ok || !c.Done || c.At != i-1 {
				t.Fatalf("Seek(%s, %d): %s, %t", text(x.c), greatest, text(c), ok)
			}
			if len(list) > 0 {
				if c, ok = cursor.Seek(x.c, list[len(list)-1].T+1); ok || !c.Done || c.At != i-1 {
					t.Fatalf("Seek(%s, %d): %s, %t", text(x.c), list[len(list)-1].T+1, text(c), ok)
				}
			}
		}
	}
}

// Look tells time and value of where a cursor stands, of any values; 0, 0 ahead of all and at the end, wherever At is.
func TestLook(t *testing.T) {
	values := []uint64{0, 1, 2, all, all - 1, half, half - 1, half + 1, mixed, ^mixed, 1 << 31, 1 << 32, 1<<32 - 1, math.Float64bits(math.NaN()), math.Float64bits(-1.5)}
	for _, x := range edgeTimes() {
		for _, v := range values {
			list := []api.Sample{{T: x, V: v}}
			c := cursor.New(list, nil)
			if y, w := cursor.Look(c); y != 0 || w != 0 {
				t.Fatalf("Look(%s): %d, %d", text(c), y, w)
			}
			one, _ := cursor.Next(c)
			two, _ := cursor.Seek(c, x)
			for _, c := range []cursor.Cursor{one, two} {
				if y, w := cursor.Look(c); y != x || w != v {
					t.Fatalf("Look(%s): %d, %d", text(c), y, w)
				}
			}
			c, _ = cursor.Next(one)
			if y, w := cursor.Look(c); y != 0 || w != 0 || c.At != 0 {
				t.Fatalf("Look(%s): %d, %d", text(c), y, w)
			}
		}
	}
	for _, list := range lists() {
		for i, x := range standing(t, list, api.ErrMagic) {
			var want api.Sample
			if i > 0 {
				want = list[i-1]
			}
			if y, w := cursor.Look(x.c); y != want.T || w != want.V {
				t.Fatalf("Look(%s): %d, %d; want %v", text(x.c), y, w, want)
			}
		}
		for _, x := range ended(t, list, api.ErrMagic) {
			if y, w := cursor.Look(x.c); y != 0 || w != 0 {
				t.Fatalf("Look(%s): %d, %d", text(x.c), y, w)
			}
		}
	}
}

// Err tells Bad itself at the end, and nil until then.
func TestErr(t *testing.T) {
	for _, list := range lists() {
		if len(list) > 33 {
			continue
		}
		for _, bad := range bads() {
			for _, x := range standing(t, list, bad) {
				if err := cursor.Err(x.c); err != nil {
					t.Fatalf("Err(%s): %v", text(x.c), err)
				}
			}
			for _, x := range ended(t, list, bad) {
				if err := cursor.Err(x.c); !sameError(err, bad) {
					t.Fatalf("Err(%s): %v", text(x.c), err)
				}
			}
		}
	}
}

// askedOf tells a time to seek, mostly near a cursor's samples.
func askedOf(next func() uint64, x both) int64 {
	list := x.a.list
	if len(list) == 0 || next()%8 == 0 {
		return int64(next()) >> (next() % 64)
	}
	i := int(next()>>1) % len(list)
	if next()%2 == 0 {
		i = min(max(x.a.at, 0)+int(next()%3), len(list)-1)
	}
	switch next() % 8 {
	case 0:
		return edgeTimes()[next()%19]
	case 1:
		return list[i].T + int64(next()%2000) - 1000
	default:
		return list[i].T + int64(next()%3) - 1
	}
}

// goOn asks any call of a cursor.
func goOn(t *testing.T, next func() uint64, x both) both {
	t.Helper()
	if next()%3 == 0 {
		return x.next(t)
	}
	return x.seek(t, askedOf(next, x))
}

// Any calls, of any cursors that calls told, in any order, answer what the account tells; and a cursor that was asked is as it was, however many calls it was handed to.
func TestOfAnyCalls(t *testing.T) {
	ends, steps := 0, 0
	for start := range uint64(3000) {
		next := mixer(start)
		list := walk(start, int(next()%40))
		if next()%4 == 0 {
			list = even(int64(next()%80)-40, int(next()%40), int64(1+next()%3))
		}
		pool := []both{fresh(t, list, bads()[next()%21])}
		for range 100 {
			x := pool[len(pool)-1]
			if next()%2 == 0 {
				x = pool[int(next()>>1)%len(pool)]
			}
			pool = append(pool, goOn(t, next, x))
			hold(t, "a cursor that was asked", x.c, true, x.a, true)
		}
		for _, x := range pool {
			hold(t, "a cursor that was asked", x.c, true, x.a, true)
			if x.c.Done {
				ends++
			} else if x.c.At > 0 {
				steps++
			}
		}
	}
	if ends < 10000 || steps < 10000 {
		t.Errorf("only %d at their end, %d between", ends, steps)
	}
}

// Next and Seek never go back: At never goes down, and once Done, always Done.
func TestNeverBack(t *testing.T) {
	for start := range uint64(2000) {
		next := mixer(^start)
		list := walk(start, int(next()%60))
		c := cursor.New(list, api.ErrSum)
		for range 90 {
			was := c
			name := "Next"
			if next()%2 == 0 {
				c, _ = cursor.Next(was)
			} else {
				to := askedOf(next, both{a: account{list: list, at: was.At}})
				name = fmt.Sprintf("Seek of %d", to)
				c, _ = cursor.Seek(was, to)
			}
			if c.At < was.At || was.Done && (!c.Done || c.At != was.At) {
				t.Fatalf("%s: %s of %s", name, text(c), text(was))
			}
		}
	}
	for _, list := range lists() {
		for _, x := range append(standing(t, list, nil), ended(t, list, nil)...) {
			for _, to := range asked(list) {
				if c, _ := cursor.Seek(x.c, to); c.At < x.c.At || x.c.Done && !c.Done {
					t.Fatalf("Seek(%s, %d): %s", text(x.c), to, text(c))
				}
			}
		}
	}
}

// Many samples are gone through, too, one by one and in leaps, to the last one.
func TestManySamples(t *testing.T) {
	const n = 200_003
	for _, list := range [][]api.Sample{walk(7, n), even(-n/2, n, 1)} {
		x := fresh(t, list, api.ErrIndex)
		for i, s := range list {
			c, ok := cursor.Next(x.c)
			if y, v := cursor.Look(c); !ok || c.At != i || c.Done || y != s.T || v != s.V {
				t.Fatalf("the %d-th Next: %s, %t, Look %d, %d; want %v", i, text(c), ok, y, v, s)
			}
			x.c = c
			if i%1000 == 3 {
				if d, ok := cursor.Seek(c, s.T+1); !ok || d.At != i+1 {
					t.Fatalf("Seek(%s, %d): %s, %t", text(c), s.T+1, text(d), ok)
				}
			}
		}
		x.a.at = n - 1
		x.next(t).next(t)
		for _, leap := range []int{1, 2, 3, 33, 255, 256, 257, 65535, 65536, 65537, 131072, n - 1} {
			leaps(t, list, leap)
		}
	}
}

// leaps seeks, from ahead of all on, each so many samples behind the last one, and at last beyond all.
func leaps(t *testing.T, list []api.Sample, leap int) {
	t.Helper()
	c, ok := cursor.New(list, api.ErrIndex), false
	for i := leap; i < len(list); i += leap {
		to := list[i-1].T + 1 + int64(uint64(list[i].T-list[i-1].T-1)/uint64(1+i%3))
		if i%3 == 0 {
			to = list[i].T
		}
		if c, ok = cursor.Seek(c, to); !ok || c.At != i || c.Done {
			t.Fatalf("Seek of %d: %s, %t; want %d", to, text(c), ok, i)
		}
		if c, ok = cursor.Seek(c, list[i-leap].T); !ok || c.At != i || c.Done {
			t.Fatalf("Seek of %d: %s, %t; want %d", list[i-leap].T, text(c), ok, i)
		}
	}
	at := c.At
	if c, ok = cursor.Seek(c, list[len(list)-1].T+1); ok || c.At != at || !c.Done || cursor.Err(c) != api.ErrIndex {
		t.Fatalf("Seek beyond all: %s, %t; want %d", text(c), ok, at)
	}
}

// Of one cursor several calls tell what each of them tells alone, in any order.
func TestSeveralCallsOfOneCursor(t *testing.T) {
	for _, list := range lists() {
		if len(list) > 33 {
			continue
		}
		times := asked(list)
		for _, x := range append(standing(t, list, api.ErrKind), ended(t, list, api.ErrKind)...) {
			for range 2 {
				for i, to := range times {
					x.seek(t, to)
					if i%5 == 0 {
						x.next(t)
					}
					x.seek(t, times[len(times)-1-i])
				}
			}
			hold(t, "a cursor that was asked", x.c, true, x.a, true)
		}
	}
}

// everyCall asks all five calls of a list, to its end by both ways.
func everyCall(list []api.Sample, bad error) {
	c := cursor.New(list, bad)
	for range len(list) + 2 {
		for _, to := range []int64{least, 0, greatest} {
			d, _ := cursor.Seek(c, to)
			cursor.Look(d)
			cursor.Err(d)
		}
		c, _ = cursor.Next(c)
		cursor.Look(c)
		cursor.Err(c)
	}
	d := cursor.New(list, bad)
	for _, x := range list {
		d, _ = cursor.Seek(d, x.T)
		d, _ = cursor.Seek(d, x.T+1)
	}
}

// The list stands as it was, and what stands around it in the same memory; this is nothing to the answers, either.
func TestTheListStaysAsItWas(t *testing.T) {
	for _, list := range lists() {
		for _, around := range []api.Sample{{}, {T: least, V: all}, {T: greatest, V: 5}, {T: -1, V: half}} {
			room := slices.Repeat([]api.Sample{around}, 9)
			memory := slices.Concat(room, list, room)
			before := slices.Clone(memory)
			part := memory[9 : 9+len(list)]
			everyCall(part, api.ErrSum)
			x := fresh(t, part, api.ErrSum)
			for range len(list) + 2 {
				x.seek(t, around.T)
				x.seek(t, greatest)
				x = x.next(t)
			}
			if !slices.Equal(memory, before) {
				t.Fatalf("%s: the samples were changed", short(list))
			}
		}
	}
}

// Cursors of one list know nothing of each other, nor do those of several lists.
func TestCursorsAreApart(t *testing.T) {
	for start := range uint64(300) {
		next := mixer(start)
		var pool []both
		for i := range uint64(4) {
			list := walk(start+i, int(next()%20))
			pool = append(pool, fresh(t, list, bads()[next()%21]), fresh(t, list, bads()[next()%21]))
		}
		for range 200 {
			i := next() % 8
			pool[i] = goOn(t, next, pool[i])
			k := next() % 8
			hold(t, "a cursor beside it", pool[k].c, true, pool[k].a, true)
		}
	}
}

// An error that is handed in is told as it is, and no call asks it anything.
type silent struct{ t *testing.T }

func (x silent) Error() string {
	x.t.Error("the error was asked for its text")
	return ""
}

func TestTheErrorIsNotAsked(t *testing.T) {
	for _, list := range lists() {
		everyCall(list, silent{t})
		everyCall(list, many{})
	}
}

// Calls that go on at the same time, of one list, know nothing of each other.
func TestCallsAtTheSameTime(t *testing.T) {
	var wg sync.WaitGroup
	list := walk(3, 500)
	for i := range uint64(8) {
		wg.Go(func() {
			next := mixer(i)
			for range 200 {
				c, a := cursor.New(list, api.ErrForm), begin(list, api.ErrForm)
				for range 60 {
					var ok, want bool
					if next()%3 == 0 {
						c, ok = cursor.Next(c)
						a, want = a.next()
					} else {
						to := askedOf(next, both{c, a})
						c, ok = cursor.Seek(c, to)
						a, want = a.seek(to)
					}
					if ok != want || !a.holds(c) {
						t.Errorf("%s, %t; want At %d, Done %t, %t", text(c), ok, a.at, a.done, want)
						return
					}
				}
			}
		})
	}
	wg.Wait()
}
