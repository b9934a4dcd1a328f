package script_test

import (
	"bytes"
	"fmt"
	"math"
	"runtime"
	"slices"
	"sync"
	"testing"
	"weak"

	"gaiter/api"
	"gaiter/script"
)

// The tests hold the replies against such as are written out, and against a plain account of the words; all of them by the iterators of both layers, 18 (not quick) and 19 (quick).

// mostSteps is how many steps a script has at most.
const mostSteps = 1000

func both() []bool { return []bool{false, true} }

// told runs a script by one of the iterators: there must be no error, and what is handed in must stay as it was.
func (k block) told(t *testing.T, quick bool, l []script.Step) []script.Reply {
	t.Helper()
	b, steps := bytes.Clone(k.b), slices.Clone(l)
	r, err := script.Run(k.b, quick, l)
	if err != nil {
		t.Fatalf("%s, quick %t: %d steps: %v", k.name, quick, len(l), err)
	}
	if !bytes.Equal(k.b, b) || !slices.Equal(l, steps) {
		t.Fatalf("%s, quick %t: what was handed in is changed", k.name, quick)
	}
	return r
}

// differ tells the first place at which two lists of replies differ, or -1.
func differ(r, want []script.Reply) int {
	for i := range max(len(r), len(want)) {
		if i >= len(r) || i >= len(want) || r[i] != want[i] {
			return i
		}
	}
	return -1
}

// holdReplies fails the test, if replies aren't those that are wanted.
func (k block) holdReplies(t *testing.T, quick bool, l []script.Step, r, want []script.Reply) {
	t.Helper()
	if len(r) != len(want) {
		t.Fatalf("%s, quick %t: %d replies to %d steps, want %d", k.name, quick, len(r), len(l), len(want))
	}
	if i := differ(r, want); i >= 0 {
		t.Fatalf("%s, quick %t: step %d of %v: %v, want %v", k.name, quick, i, l[max(i-9, 0):i+1], r[i], want[i])
	}
}

// hold runs a script by both iterators, and holds the replies against the account's.
func (k block) hold(t *testing.T, l ...script.Step) {
	t.Helper()
	want := k.replies(l)
	for _, quick := range both() {
		k.holdReplies(t, quick, l, k.told(t, quick, l), want)
	}
}

// line is a step, and its reply.
type line struct {
	s script.Step
	r script.Reply
}

func onNext(ok bool) line { return line{script.Step{Op: 1}, script.Reply{Ok: ok}} }

func onSeek(t int64, ok bool) line { return line{script.Step{Op: 2, T: t}, script.Reply{Ok: ok}} }

func onAt(t int64, v uint64) line { return line{script.Step{Op: 3}, script.Reply{T: t, V: v}} }

func onErr(code int) line { return line{script.Step{Op: 4}, script.Reply{Code: code}} }

func onOther(op int) line { return line{script.Step{Op: op}, script.Reply{Code: 1}} }

// page is bytes, and the lines of a script of them.
type page struct {
	b     []byte
	lines []line
}

// pages tells scripts, and the replies to them, written out.
func pages() []page {
	empty := []byte{71, 84, 83, 49, 1, 0, 139, 6, 236, 214}
	first, second := turned(three(), 32, 1), turned(three(), 60, 1)
	return []page{
		{nil, nil},
		{three(), nil},
		{nil, []line{onNext(false)}},
		{nil, []line{onErr(0), onAt(0, 0), onNext(false), onErr(5), onErr(5), onAt(0, 0), onNext(false), onSeek(0, false), onErr(5)}},
		{nil, []line{onSeek(0, false), onErr(5), onAt(0, 0)}},
		{[]byte{}, []line{onErr(0), onSeek(least, false), onErr(5)}},
		{empty, []line{onErr(0), onAt(0, 0), onNext(false), onAt(0, 0), onErr(0), onSeek(least, false), onErr(0)}},
		{empty, []line{onSeek(least, false), onErr(0), onAt(0, 0), onNext(false)}},
		{empty[:9], []line{onErr(0), onNext(false), onErr(2)}},
		{three(), []line{onAt(0, 0), onErr(0), onNext(true), onAt(10, 5), onErr(0), onNext(true), onAt(20, 8), onNext(true), onAt(30, 11), onErr(0), onNext(false), onAt(0, 0), onErr(0), onNext(false)}},
		{three(), []line{onNext(true), onNext(true), onNext(true), onNext(false), onNext(false)}},
		{three(), []line{onSeek(10, true), onSeek(10, true), onAt(10, 5), onAt(10, 5), onSeek(11, true), onAt(20, 8), onSeek(20, true), onSeek(9, true), onAt(20, 8), onSeek(21, true), onAt(30, 11)}},
		{three(), []line{onSeek(9, true), onAt(10, 5), onSeek(19, true), onAt(20, 8), onNext(true), onAt(30, 11), onSeek(10, true), onAt(30, 11), onSeek(31, false), onAt(0, 0), onErr(0), onSeek(10, false), onSeek(30, false), onAt(0, 0)}},
		{three(), []line{onSeek(greatest, false), onErr(0), onAt(0, 0), onNext(false), onSeek(least, false)}},
		{three(), []line{onSeek(least, true), onAt(10, 5), onNext(true), onSeek(least, true), onAt(20, 8), onErr(0)}},
		{three(), []line{onSeek(30, true), onAt(30, 11), onErr(0), onNext(false), onErr(0)}},
		{three(), []line{onOther(0), onAt(0, 0), onOther(5), onNext(true), onOther(-1), onAt(10, 5), onOther(math.MinInt), onNext(true), onOther(math.MaxInt), onAt(20, 8), onErr(0)}},
		{three(), []line{onOther(0), onOther(0), onOther(5), onErr(0), onSeek(20, true), onOther(0), onAt(20, 8)}},
		{nil, []line{onOther(5), onErr(0), onOther(0), onNext(false), onOther(6), onErr(5), onOther(-4), onErr(5)}},
		{wide(), []line{onSeek(least, true), onAt(least, all), onSeek(least+1, true), onAt(-1, 7), onNext(true), onAt(0, 7), onSeek(greatest, true), onAt(greatest, 0), onSeek(greatest, true), onErr(0), onNext(false), onAt(0, 0)}},
		{wide(), []line{onNext(true), onAt(least, all), onNext(true), onAt(-1, 7), onNext(true), onAt(0, 7), onNext(true), onAt(greatest, 0), onNext(false), onErr(0)}},
		{wide(), []line{onSeek(1, true), onAt(greatest, 0), onSeek(least, true), onAt(greatest, 0)}},
		{second, []line{onNext(true), onErr(0), onAt(10, 5), onNext(true), onErr(0), onAt(20, 8), onNext(false), onErr(7), onAt(0, 0), onSeek(10, false), onNext(false), onErr(7)}},
		{second, []line{onSeek(20, true), onErr(0), onAt(20, 8), onSeek(30, false), onErr(7), onAt(0, 0)}},
		{second, []line{onSeek(30, false), onErr(7), onErr(7), onOther(9), onErr(7)}},
		{first, []line{onErr(0), onAt(0, 0), onNext(false), onErr(7), onNext(false), onAt(0, 0)}},
		{first, []line{onSeek(30, false), onErr(7)}},
		{turned(three(), 4, 2), []line{onSeek(10, false), onErr(6)}},
		{three()[:len(three())-1], []line{onNext(false), onErr(8), onAt(0, 0)}},
	}
}

// The replies are those that are written out.
func TestWrittenOut(t *testing.T) {
	for i, p := range pages() {
		var l []script.Step
		var want []script.Reply
		for _, x := range p.lines {
			l, want = append(l, x.s), append(want, x.r)
		}
		k := block{name: fmt.Sprint("page ", i), b: p.b}
		for _, quick := range both() {
			for n := range len(l) + 1 {
				k.holdReplies(t, quick, l[:n], k.told(t, quick, l[:n]), want[:n])
			}
		}
	}
}

// No step has no reply, whatever the bytes are.
func TestNoSteps(t *testing.T) {
	for _, k := range every(t) {
		for _, quick := range both() {
			for _, l := range [][]script.Step{nil, {}} {
				if r := k.told(t, quick, l); len(r) > 0 {
					t.Fatalf("%s, quick %t: %v", k.name, quick, r)
				}
			}
		}
	}
}

// toPlace tells the steps by which an iterator comes to a place, -1 being ahead of all, and how many samples there are the end: by Next, by SeekTo, or by both.
func toPlace(list []api.Sample, at, way int) []script.Step {
	var l []script.Step
	from := -1
	if sought := []int{-1, at / 2, at}[way%3]; at >= 0 && sought >= 0 {
		from = sought
		if sought < len(list) {
			l = append(l, aSeek(list[sought].T))
		} else if n := len(list); n > 0 && list[n-1].T == greatest {
			// No SeekTo goes beyond this one.
			from = -1
		} else {
			l = append(l, aSeek(greatest))
		}
	}
	for ; from < at; from++ {
		l = append(l, aNext())
	}
	return l
}

// placeOf tells where an iterator stands behind a script.
func (k block) placeOf(l []script.Step) int {
	a := k.account()
	for _, s := range l {
		a.reply(s)
	}
	return a.at
}

// places tells where an iterator may stand: all places of few samples; else those at the ends, and around each chunk's.
func places(k block) []int {
	n := len(k.list)
	var l []int
	_, chunks, _, _ := indexOf(k.b)
	if n < 10 || len(chunks) > 4 {
		for at := -1; at <= n; at++ {
			if n < 10 || at%4 == 0 || at < 1 || at > n-2 {
				l = append(l, at)
			}
		}
		return l
	}
	l = append(l, -1, 0, 1, n/2, n-2, n-1, n)
	ahead := 0
	for _, e := range chunks {
		ahead += e.Count
		l = append(l, min(ahead-1, n), min(ahead, n), min(ahead+1, n))
	}
	slices.Sort(l)
	return slices.Compact(l)
}

// stays tells steps by which an iterator at this place stays: all that are of no account, or that seek what is there, or behind.
func stays(k block, at int) []script.Step {
	l := []script.Step{anAt(), anErr(), anAt(), anAt(), anErr(), anErr(), {Op: 0}, {Op: 5}, {Op: -1}, anAt(), anErr()}
	if at < 0 {
		return l
	}
	if at < len(k.list) {
		to := k.list[at].T
		l = append(l, aSeek(to), anAt(), aSeek(to), anAt(), anErr(), aSeek(least), anAt(), aSeek(k.list[at/2].T), anAt(), anErr())
		if to > least {
			l = append(l, aSeek(to-1), anAt(), aSeek(to-1), anAt(), anErr())
		}
		return l
	}
	return append(l, aNext(), anAt(), anErr(), aNext(), aSeek(least), anErr(), aSeek(greatest), aSeek(greatest), anErr(), anAt())
}

// goes tells steps by which an iterator at this place may go on.
func goes(k block, at int) []script.Step {
	l := []script.Step{aNext(), aSeek(greatest)}
	if at < 0 {
		l = append(l, aSeek(least))
	}
	for i := max(at, 0); i < min(at+3, len(k.all)); i++ {
		if to := k.all[i].T; to < greatest {
			l = append(l, aSeek(to), aSeek(to+1))
		}
	}
	return l
}

// Each step, and each twice, at each place, however it was come to: what is told there, and behind the step, is the account's.
func TestEachStepAtEachPlace(t *testing.T) {
	for _, k := range every(t) {
		for i, at := range places(k) {
			come := toPlace(k.list, at, i)
			if k.placeOf(come) != at || k.placeOf(toPlace(k.list, at, i+1)) != at {
				t.Fatalf("%s: the test's own steps %v don't come to %d", k.name, come, at)
			}
			k.hold(t, slices.Concat(toPlace(k.list, at, i+1), stays(k, at), stays(k, at))...)
			for _, s := range goes(k, at) {
				k.hold(t, slices.Concat(come, []script.Step{s, anAt(), anErr(), s, anErr(), anAt(), s, s, anAt(), aNext(), anAt(), anErr()})...)
			}
		}
	}
}

// Ahead of the first success what At and Err tell is zero, however often they are asked.
func TestAheadOfAll(t *testing.T) {
	for _, k := range every(t) {
		for _, quick := range both() {
			l := []script.Step{anAt(), anErr(), anErr(), anAt(), {Op: opAt, T: 7}, {Op: opErr, T: least}}
			for i, r := range k.told(t, quick, l) {
				if r != (script.Reply{}) {
					t.Fatalf("%s, quick %t: %v: %v", k.name, quick, l[i], r)
				}
			}
		}
	}
}

// All samples are told by Next and At, and their number; behind them it is the end, for good, and Err is the error's number, if there is one.
func TestThroughAll(t *testing.T) {
	for _, k := range every(t) {
		var l []script.Step
		for range len(k.all) + 2 {
			l = append(l, aNext(), anAt(), anErr())
		}
		l = append(l, aSeek(least), anErr(), aSeek(greatest), anErr(), anAt(), aNext(), anErr())
		for _, quick := range both() {
			r := k.told(t, quick, l)
			for i, s := range k.list {
				if want := []script.Reply{{Ok: true}, {T: s.T, V: s.V}, {}}; !slices.Equal(r[3*i:3*i+3], want) {
					t.Fatalf("%s, quick %t: sample %d: %v, want %v", k.name, quick, i, r[3*i:3*i+3], want)
				}
			}
			for i, x := range r[3*len(k.list):] {
				want := script.Reply{}
				if l[3*len(k.list)+i].Op == opErr {
					want.Code = int(k.code)
				}
				if x != want {
					t.Fatalf("%s, quick %t: %d steps behind all: %v, want %v", k.name, quick, i, x, want)
				}
			}
		}
	}
}

// Times that are sought ahead of all: the ends, those of the samples, and their neighbours.
func TestSeekFromAheadOfAll(t *testing.T) {
	for i, k := range every(t) {
		for _, to := range someOf(asked(k.all), i, 1+len(k.all)/4) {
			k.hold(t, aSeek(to), anAt(), anErr(), aSeek(to), anAt(), aSeek(least), anAt(), anErr(), aNext(), anAt(), anErr(), aSeek(to), anAt(), anErr())
		}
	}
}

// Times that are sought one behind the other, and such as lie behind.
func TestSeekOn(t *testing.T) {
	for i, k := range every(t) {
		times := asked(k.all)
		for _, step := range []int{1, 2, 5} {
			var l []script.Step
			for j := i % step; j < len(times) && len(l) < mostSteps-8; j += step {
				l = append(l, aSeek(times[j]), anAt(), anErr(), aSeek(times[j/2]), anAt(), aSeek(times[max(j-1, 0)]), anAt())
			}
			k.hold(t, l...)
		}
	}
}

// anyStep tells any step: mostly one of the four, with any T.
func anyStep(next func() uint64, list []api.Sample, from int) script.Step {
	t := askedOf(next, list, from)
	switch next() % 12 {
	case 0, 1, 2:
		return script.Step{Op: opNext, T: t}
	case 3, 4, 5, 6:
		return script.Step{Op: opSeek, T: t}
	case 7, 8:
		return script.Step{Op: opAt, T: t}
	case 9, 10:
		return script.Step{Op: opErr, T: t}
	default:
		return script.Step{Op: otherOps()[next()%uint64(len(otherOps()))], T: t}
	}
}

// anySteps tells a script of any steps, such as go through all of a list by and by.
func anySteps(next func() uint64, list []api.Sample, n int) []script.Step {
	a := account{list: list, at: -1}
	var l []script.Step
	for range n {
		s := anyStep(next, list, a.at)
		a.reply(s)
		l = append(l, s)
	}
	return l
}

// Any steps in any order.
func TestAnySteps(t *testing.T) {
	next := mixer(1)
	for _, k := range every(t) {
		for range 6 {
			k.hold(t, anySteps(next, k.all, int(next()%60))...)
		}
	}
}

// otherOps tells Ops of no step: near the four, the ends, and such as are one of the four but for their higher bits, or their sign.
func otherOps() []int {
	return []int{0, 5, -1, math.MinInt, math.MaxInt, 6, 7, 8, 9, 10, 100, -2, -3, -4, -5, 128 + 1, 256 + 1, 256 + 2, 256 + 3, 256 + 4, 1<<16 + 1, 1<<16 + 4, math.MaxInt32, math.MinInt32, 1<<32 + 1, 1<<32 + 2, 1<<32 + 3, 1<<32 + 4, math.MinInt + 1, math.MinInt + 4, math.MaxInt - 1}
}

// By another Op the reply is ErrArg's number, and nothing else, whatever T is, wherever the iterator stands.
func TestOtherOps(t *testing.T) {
	for _, k := range every(t) {
		for _, at := range []int{-1, 0, len(k.list) / 2, len(k.list) - 1, len(k.list)} {
			for _, quick := range both() {
				l := toPlace(k.list, at, 0)
				from := len(l)
				for i, op := range otherOps() {
					l = append(l, script.Step{Op: op, T: int64(i%3) * 10}, script.Step{Op: op, T: asked(k.all)[i%9]})
				}
				for i, r := range k.told(t, quick, l)[from:] {
					if r != (script.Reply{Code: int(api.ErrArg)}) {
						t.Fatalf("%s, quick %t: at %d: %v: %v", k.name, quick, at, l[from+i], r)
					}
				}
			}
		}
	}
}

// Between other steps they do nothing: the other replies are those of the script without them.
func TestOtherOpsDoNothing(t *testing.T) {
	next := mixer(2)
	for i, k := range every(t) {
		l := anySteps(next, k.all, 12)
		l = slices.DeleteFunc(l, func(s script.Step) bool { return s.Op < opNext || s.Op > opErr })
		l = append(l, aNext(), anAt(), anErr())
		for _, quick := range both() {
			want := k.told(t, quick, l)
			for j, op := range otherOps() {
				if (i+j)%5 != 0 && j > 4 {
					continue
				}
				var more []script.Step
				for _, s := range l {
					more = append(more, script.Step{Op: op, T: s.T}, s)
				}
				r := k.told(t, quick, append(more, script.Step{Op: op}))
				for n, s := range r {
					switch {
					case n%2 == 0 && s != script.Reply{Code: 1}:
						t.Fatalf("%s, quick %t: Op %d: %v", k.name, quick, op, s)
					case n%2 == 1 && s != want[n/2]:
						t.Fatalf("%s, quick %t: between Op %d: %v: %v, want %v", k.name, quick, op, l[n/2], s, want[n/2])
					}
				}
			}
		}
	}
}

// A step's T is of no account but for SeekTo.
func TestOfNoT(t *testing.T) {
	next := mixer(3)
	for _, k := range every(t) {
		l := anySteps(next, k.all, 30)
		for _, quick := range both() {
			want := k.told(t, quick, l)
			for _, to := range []int64{least, -1, 0, 1, 10, greatest} {
				other := slices.Clone(l)
				for i, s := range l {
					if s.Op != opSeek {
						other[i].T = to ^ int64(next()%3)*s.T
					}
				}
				k.holdReplies(t, quick, other, k.told(t, quick, other), want)
			}
		}
	}
}

// As many steps as may be are done, the last one like the others.
func TestTheMostSteps(t *testing.T) {
	next := mixer(4)
	list := walk(4, 700)
	blocks := append(none(t), spoilt(t, 33, 2)[:30]...)
	for _, size := range []int{1, 7, 1000} {
		blocks = append(blocks, block{fmt.Sprintf("%s by %d", short(list), size), packed(t, api.Ints, list, size), list, 0, list})
	}
	for _, k := range blocks {
		for _, n := range []int{999, mostSteps} {
			through := slices.Repeat([]script.Step{aNext(), anAt()}, n)[:n]
			k.hold(t, through...)
			k.hold(t, slices.Repeat([]script.Step{aNext()}, n)...)
			k.hold(t, anySteps(next, k.all, n)...)
			for op := range 7 {
				k.hold(t, slices.Repeat([]script.Step{{Op: op, T: -1000}}, n)...)
			}
			// The last step alone goes anywhere.
			k.hold(t, append(slices.Repeat([]script.Step{anErr()}, n-1), aNext())...)
			k.hold(t, append(slices.Repeat([]script.Step{{}}, n-1), aSeek(greatest))...)
		}
	}
}

// More steps are ErrLarge, itself, without a reply, whatever they are, and whatever the bytes are.
func TestTooManySteps(t *testing.T) {
	blocks := slices.Concat(none(t), spoilt(t, 2, 2), []block{{"three", three(), nil, 0, nil}})
	for i, k := range blocks {
		for j, n := range []int{1001, 1002, 1003, 1023, 1024, 1025, 2000, 2001, 65535, 65536, 65537, 65536 + 1000, 1 << 20} {
			if n > 3000 && i%20 != j%20 {
				continue
			}
			for _, quick := range both() {
				for op := range 7 {
					l := slices.Repeat([]script.Step{{Op: op, T: 1}}, n)
					before := bytes.Clone(k.b)
					r, err := script.Run(k.b, quick, l)
					if !isCode(err, api.ErrLarge) || len(r) != 0 {
						t.Fatalf("%s, quick %t: %d of Op %d: %d replies, %v", k.name, quick, n, op, len(r), err)
					}
					if !bytes.Equal(k.b, before) || l[0] != l[n-1] || l[0] != (script.Step{Op: op, T: 1}) {
						t.Fatalf("%s, quick %t: what was handed in is changed", k.name, quick)
					}
				}
			}
		}
	}
}

// It is how many there are that counts, not how much room a list has.
func TestRoomIsOfNoAccount(t *testing.T) {
	l := append(make([]script.Step, 0, 5000), aNext(), anAt(), anErr())
	k := block{"three", three(), []api.Sample{{T: 10, V: 5}, {T: 20, V: 8}, {T: 30, V: 11}}, 0, nil}
	k.hold(t, l...)
	k.hold(t, l[:0]...)
	k.hold(t, l[:2]...)
}

// Each error's number comes out as Err's Code, of those that bytes may have.
func TestEachErrorsNumber(t *testing.T) {
	seen := map[int]int{}
	for _, k := range every(t) {
		for _, quick := range both() {
			for _, end := range []script.Step{aNext(), aSeek(greatest)} {
				r := k.told(t, quick, append(slices.Repeat([]script.Step{end}, len(k.all)+2), anErr(), anErr()))
				for _, x := range r[len(r)-2:] {
					if n := len(k.list); n > 0 && k.list[n-1].T == greatest && end.Op == opSeek {
						continue
					}
					if x != (script.Reply{Code: int(k.code)}) {
						t.Fatalf("%s, quick %t: %v, want %d", k.name, quick, x, int(k.code))
					}
					seen[x.Code]++
				}
			}
		}
	}
	for code := 2; code <= 9; code++ {
		if seen[code] < 8 {
			t.Errorf("%d only %d times", code, seen[code])
		}
	}
	if seen[0] < 8 || seen[1] > 0 {
		t.Errorf("0 %d times, 1 %d times", seen[0], seen[1])
	}
}

// A chunk that isn't good, be it the first, a middle or the last one, ends the script's samples there, for each reason.
func TestSpoiltChunks(t *testing.T) {
	for _, k := range bads(t) {
		n := len(k.list)
		l := toPlace(k.list, n-1, 0)
		l = append(l, anAt(), anErr(), aNext(), anAt(), anErr(), aNext(), aSeek(least), anErr())
		k.hold(t, l...)
		for _, s := range k.all[n:] {
			k.hold(t, aSeek(s.T), anAt(), anErr(), aSeek(least), anErr())
			k.hold(t, append(toPlace(k.list, n-1, 1), anErr(), aSeek(s.T), anAt(), anErr(), aNext(), anErr())...)
		}
	}
}

// The memory around what is handed in stays as it was, too, and is nothing to the replies.
func TestWhatIsHandedInStays(t *testing.T) {
	next := mixer(5)
	for _, k := range every(t) {
		l := anySteps(next, k.all, 20)
		want := k.replies(l)
		for i, around := range []byte{0, 255, 0x5a} {
			room := bytes.Repeat([]byte{around}, 30)
			memory := slices.Concat(room, k.b, room)
			op := []int{opNext, opSeek, opErr}[i]
			steps := slices.Concat(make([]script.Step, 9), l, slices.Repeat([]script.Step{{Op: op, T: greatest}}, 9))
			before, stepsBefore := bytes.Clone(memory), slices.Clone(steps)
			for _, quick := range both() {
				r, err := script.Run(memory[30:30+len(k.b)], quick, steps[9:9+len(l)])
				if err != nil || differ(r, want) >= 0 {
					t.Fatalf("%s, quick %t: what is around changes the replies: %v", k.name, quick, err)
				}
				if !bytes.Equal(memory, before) || !slices.Equal(steps, stepsBefore) {
					t.Fatalf("%s, quick %t: what was handed in is changed", k.name, quick)
				}
			}
		}
	}
}

// Two runs of the same bytes tell the same: each is ahead of all again, whatever was run between.
func TestRunsAreApart(t *testing.T) {
	next := mixer(6)
	blocks := every(t)
	for i, k := range blocks {
		other := blocks[(i*7+1)%len(blocks)]
		l, more := anySteps(next, k.all, 15), anySteps(next, other.all, 15)
		for _, quick := range both() {
			want := k.replies(l)
			for range 2 {
				k.holdReplies(t, quick, l, k.told(t, quick, l), want)
				k.holdReplies(t, !quick, l, k.told(t, !quick, l), want)
				other.hold(t, more...)
			}
		}
	}
}

// scribble changes a list of replies, and the memory behind it that it has.
func scribble(r []script.Reply) {
	r = r[:cap(r)]
	for i := range r {
		r[i] = script.Reply{Ok: true, T: -77, V: 77, Code: 77}
	}
}

// What is told is new memory: changed, it changes no other run's replies, whether they were told ahead of it or behind; nor the bytes, nor the steps.
func TestNewMemory(t *testing.T) {
	next := mixer(7)
	for _, k := range every(t) {
		l := anySteps(next, k.all, 10)
		want := k.replies(l)
		var runs [][]script.Reply
		for i := range 6 {
			runs = append(runs, k.told(t, i%2 == 0, l[:len(l)-i/2]))
		}
		b, steps := bytes.Clone(k.b), slices.Clone(l)
		for i := range runs {
			for j, r := range runs[i:] {
				if n := len(l) - (i+j)/2; differ(r, want[:n]) >= 0 {
					t.Fatalf("%s: run %d is changed by another one", k.name, i+j)
				}
			}
			scribble(runs[i])
			if !bytes.Equal(k.b, b) || !slices.Equal(l, steps) {
				t.Fatalf("%s: a changed answer changes what was handed in", k.name)
			}
			k.hold(t, l...)
		}
	}
}

// What is handed in isn't kept: changed behind a run, it changes no reply; and a run of the changed bytes, or steps, tells what they are now.
func TestNothingIsKept(t *testing.T) {
	next := mixer(8)
	for _, k := range every(t) {
		l := anySteps(next, k.all, 12)
		for _, quick := range both() {
			b, steps := bytes.Clone(k.b), slices.Clone(l)
			r, err := script.Run(b, quick, steps)
			want := k.replies(l)
			for i := range b {
				b[i] ^= 0x55
			}
			for i := range steps {
				steps[i] = []script.Step{anAt(), aNext(), anErr()}[i%3]
			}
			if err != nil || differ(r, want) >= 0 {
				t.Fatalf("%s, quick %t: what was handed in changes the replies", k.name, quick)
			}
			x := block{"changed " + k.name, b, nil, api.ErrMagic, nil}
			x.holdReplies(t, quick, steps, x.told(t, quick, steps), x.replies(steps))
			for i := range b {
				b[i] ^= 0x55
			}
			x = block{"changed back " + k.name, b, k.list, k.code, k.all}
			x.holdReplies(t, quick, steps, x.told(t, quick, steps), x.replies(steps))
		}
	}
}

// gone runs a script, and tells places in the memory of its bytes, steps and replies, that hold nothing of it alive.
func gone(quick bool) (weak.Pointer[byte], weak.Pointer[script.Step], weak.Pointer[script.Reply]) {
	b, l := three(), slices.Repeat([]script.Step{aNext(), anAt()}, 3)
	r, _ := script.Run(b, quick, l)
	return weak.Make(&b[0]), weak.Make(&l[0]), weak.Make(&r[0])
}

// Once nobody else has what was handed in and told, it is given back.
func TestMemoryIsGivenBack(t *testing.T) {
	for _, quick := range both() {
		b, l, r := gone(quick)
		runtime.GC()
		if b.Value() != nil || l.Value() != nil || r.Value() != nil {
			t.Errorf("quick %t: bytes %t, steps %t, replies %t are kept", quick, b.Value() != nil, l.Value() != nil, r.Value() != nil)
		}
	}
}

// Runs at the same time know nothing of each other.
func TestAtTheSameTime(t *testing.T) {
	var wg sync.WaitGroup
	next := mixer(9)
	for _, kind := range bothKinds() {
		list := walk(7, 200)
		k := block{"", packed(t, kind, list, 40), list, 0, list}
		for range 4 {
			l := anySteps(next, list, 300)
			want := k.replies(l)
			wg.Go(func() {
				for i := range 20 {
					if r, err := script.Run(k.b, i%2 == 0, l); err != nil || differ(r, want) >= 0 {
						t.Errorf("kind %d: %d unlike, %v", kind, differ(r, want), err)
						return
					}
				}
			})
		}
	}
	wg.Wait()
}

// Quick, it is layer 19 that goes through the block: it takes memory only for the chunks that it comes to. Else layer 18 decodes all of them.
func TestQuickIsLayer19(t *testing.T) {
	const size, chunks = 1000, 64
	list := even(0, size*chunks, 10)
	for i := range list {
		list[i].V = uint64(i)
	}
	b := packed(t, api.Ints, list, size)
	run := func(quick bool, l ...script.Step) uint64 {
		return spent(func() { script.Run(b, quick, l) })
	}
	whole := run(false, aNext())
	for i, l := range [][]script.Step{{}, {anAt(), anErr(), {Op: 5}}, {aNext(), anAt()}, {aNext(), aSeek(least), aSeek(10 * (size - 1)), anAt()}, {aSeek(10*size - 10), anErr()}, {aSeek(10 * size), anAt()}} {
		if n := run(true, l...); n > whole/4 {
			t.Errorf("script %d: %d bytes of memory, %d where all is decoded", i, n, whole)
		}
	}
}
