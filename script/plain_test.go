package script_test

import (
	"encoding/binary"
	"hash/crc32"
	"slices"
	"testing"

	"gaiter/api"
	"gaiter/index"
	"gaiter/script"
	"gaiter/whole"
)

// What DOC.md and the chapters say of bytes, and of steps, worked out plainly: no layer is asked. What T1 and T2 promise of any bytes is held against this.

// The steps' Ops.
const (
	opNext = 1
	opSeek = 2
	opAt   = 3
	opErr  = 4
)

func aNext() script.Step { return script.Step{Op: opNext} }

func aSeek(t int64) script.Step { return script.Step{Op: opSeek, T: t} }

func anAt() script.Step { return script.Step{Op: opAt} }

func anErr() script.Step { return script.Step{Op: opErr} }

// account is a plain cursor: samples, the error behind them, and where it stands.
type account struct {
	list []api.Sample
	code api.Code
	at   int // -1 ahead of all, and how many samples there are at the end
}

func (k block) account() *account { return &account{k.list, k.code, -1} }

func (a *account) next() bool {
	a.at = min(a.at+1, len(a.list))
	return a.at < len(a.list)
}

func (a *account) seek(t int64) bool {
	for a.at < 0 || a.at < len(a.list) && a.list[a.at].T < t {
		a.at++
	}
	return a.at < len(a.list)
}

func (a *account) look() api.Sample {
	if a.at < 0 || a.at == len(a.list) {
		return api.Sample{}
	}
	return a.list[a.at]
}

func (a *account) err() api.Code {
	if a.at < len(a.list) {
		return 0
	}
	return a.code
}

// reply tells the reply to a step.
func (a *account) reply(s script.Step) script.Reply {
	switch s.Op {
	case opNext:
		return script.Reply{Ok: a.next()}
	case opSeek:
		return script.Reply{Ok: a.seek(s.T)}
	case opAt:
		return script.Reply{T: a.look().T, V: a.look().V}
	case opErr:
		return script.Reply{Code: int(a.err())}
	}
	return script.Reply{Code: 1}
}

// replies tells the replies to a script.
func (k block) replies(l []script.Step) []script.Reply {
	a := k.account()
	var told []script.Reply
	for _, s := range l {
		told = append(told, a.reply(s))
	}
	return told
}

// text goes through bits.
type text struct {
	b  []byte
	at int
}

// left tells how many bits there are still.
func (x *text) left() int { return 8*len(x.b) - x.at }

// take tells the number of the next n bits; false, if there are fewer.
func (x *text) take(n int) (uint64, bool) {
	if x.left() < n {
		return 0, false
	}
	var v uint64
	for range n {
		v = 2*v + uint64(x.b[x.at/8]>>(7-x.at%8)&1)
		x.at++
	}
	return v, true
}

// hasRoom tells whether a number of two's complement of n bits may be v.
func hasRoom(n int, v int64) bool {
	if n == 0 {
		return v == 0
	}
	return n == 64 || -1<<(n-1) <= v && v < 1<<(n-1)
}

// number tells what layer 5 says of the next bits.
func (x *text) number() (int64, api.Code) {
	sizes := []int{0, 7, 9, 12, 64}
	ones := 0
	for ones < 4 {
		bit, ok := x.take(1)
		if !ok {
			return 0, api.ErrShort
		}
		if bit == 0 {
			break
		}
		ones++
	}
	body, ok := x.take(sizes[ones])
	if !ok {
		return 0, api.ErrShort
	}
	v := int64(body)
	if n := sizes[ones]; n > 0 && n < 64 && v >= 1<<(n-1) {
		v -= 1 << n
	}
	for _, n := range sizes[:ones] {
		if hasRoom(n, v) {
			return 0, api.ErrForm
		}
	}
	return v, 0
}

// window is layer 7's: lead bits, and then size; of size 0 there is none.
type window struct{ lead, size int }

// value tells what layer 7 says of the next bits, and the window behind them.
func (x *text) value(prev uint64, w window) (uint64, window, api.Code) {
	first, ok := x.take(1)
	if !ok {
		return 0, w, api.ErrShort
	}
	if first == 0 {
		return prev, w, 0
	}
	second, ok := x.take(1)
	if !ok {
		return 0, w, api.ErrShort
	}
	if second == 0 {
		if w.size == 0 {
			return 0, w, api.ErrForm
		}
		other, ok := x.take(w.size)
		if !ok {
			return 0, w, api.ErrShort
		}
		if other == 0 {
			return 0, w, api.ErrForm
		}
		return prev ^ other<<(64-w.lead-w.size), w, 0
	}
	numbers, ok := x.take(12)
	if !ok {
		return 0, w, api.ErrShort
	}
	v := window{int(numbers / 64), int(numbers%64) + 1}
	if v.lead+v.size > 64 {
		return 0, w, api.ErrForm
	}
	other, ok := x.take(v.size)
	if !ok {
		return 0, w, api.ErrShort
	}
	if other%2 == 0 || other>>(v.size-1) == 0 {
		return 0, w, api.ErrForm
	}
	if w.size > 0 && w.lead <= v.lead && v.lead+v.size <= w.lead+w.size {
		return 0, w, api.ErrForm
	}
	return prev ^ other<<(64-v.lead-v.size), v, 0
}

// samples tells what layer 10 says of bytes that should be n samples; none, with an error.
func samples(kind int, b []byte, n int) ([]api.Sample, api.Code) {
	x := text{b: b}
	t, okT := x.take(64)
	v, okV := x.take(64)
	if !okT || !okV {
		return nil, api.ErrShort
	}
	list := []api.Sample{{T: int64(t), V: v}}
	var d, e int64
	var w window
	for len(list) < n {
		last := list[len(list)-1]
		more, code := x.number()
		if code != 0 {
			return nil, code
		}
		s := api.Sample{T: last.T + d + more}
		if kind == api.Xor {
			s.V, w, code = x.value(last.V, w)
		} else {
			more, code = x.number()
			s.V = last.V + uint64(e+more)
		}
		if code != 0 {
			return nil, code
		}
		if s.T <= last.T {
			return nil, api.ErrOrder
		}
		d, e = s.T-last.T, int64(s.V-last.V)
		list = append(list, s)
	}
	left := x.left()
	if rest, _ := x.take(min(left, 8)); left >= 8 || rest != 0 {
		return nil, api.ErrForm
	}
	return list, 0
}

// chunkOf tells what layer 16 says of a chunk.
func chunkOf(kind int, e index.Entry, b []byte) ([]api.Sample, api.Code) {
	body, sum := b[:len(b)-4], b[len(b)-4:]
	if binary.BigEndian.Uint32(sum) != crc32.ChecksumIEEE(body) {
		return nil, api.ErrSum
	}
	l, code := samples(kind, body, e.Count)
	if code == 0 && (l[0].T != e.Min || l[len(l)-1].T != e.Max) {
		return nil, api.ErrIndex
	}
	return l, code
}

// uvarOf tells what layer 3 says of bytes from a place on, and the place behind.
func uvarOf(b []byte, at int) (uint64, int, api.Code) {
	var v uint64
	for i := 0; at+i < len(b); i++ {
		c := b[at+i]
		switch {
		case i == 9 && c > 1, i > 0 && c == 0:
			return 0, 0, api.ErrForm
		case c < 128:
			return v + uint64(c)<<(7*i), at + i + 1, 0
		}
		v += uint64(c-128) << (7 * i)
	}
	return 0, 0, api.ErrShort
}

// indexOf tells what layer 14 says of bytes: the kind, the chunks, and the place behind them.
func indexOf(b []byte) (int, []index.Entry, int, api.Code) {
	fail := func(code api.Code) (int, []index.Entry, int, api.Code) { return 0, nil, 0, code }
	if len(b) < 4 || string(b[:4]) != "GTS1" {
		return fail(api.ErrMagic)
	}
	if len(b) == 4 {
		return fail(api.ErrShort)
	}
	if b[4] != 1 && b[4] != 2 {
		return fail(api.ErrKind)
	}
	n, at, code := uvarOf(b, 5)
	if code != 0 {
		return fail(code)
	}
	if n > 65535 {
		return fail(api.ErrLarge)
	}
	var list []index.Entry
	mayBe, sum := true, uint64(0)
	for i := range int(n) {
		if len(b) < at+8 {
			return fail(api.ErrShort)
		}
		first := int64(binary.BigEndian.Uint64(b[at:]))
		at += 8
		var rest [3]uint64
		for j := range rest {
			if rest[j], at, code = uvarOf(b, at); code != 0 {
				return fail(code)
			}
		}
		// Where Max would go around, it may not be.
		if rest[0] > uint64(greatest)-uint64(first) || rest[1] < 1 || rest[1] > 65535 || rest[2] < 4 || rest[2] > 1<<31-1 {
			mayBe = false
		}
		if i > 0 && first <= list[i-1].Max {
			mayBe = false
		}
		sum += rest[2] % (1 << 31)
		list = append(list, index.Entry{Min: first, Max: first + int64(rest[0]), Count: int(rest[1] % (1 << 31)), Len: int(rest[2] % (1 << 31))})
	}
	if len(b) < at+4 {
		return fail(api.ErrShort)
	}
	if binary.BigEndian.Uint32(b[at:]) != crc32.ChecksumIEEE(b[:at]) {
		return fail(api.ErrSum)
	}
	at += 4
	if !mayBe || sum != uint64(len(b)-at) {
		return fail(api.ErrIndex)
	}
	return int(b[4]), list, at, 0
}

// blockOf tells the samples of the longest good beginning of any bytes, and the error behind them.
func blockOf(b []byte) block {
	k := block{name: brief(b), b: b}
	kind, chunks, at, code := indexOf(b)
	k.code = code
	for _, e := range chunks {
		l, code := chunkOf(kind, e, b[at:at+e.Len])
		if code != 0 {
			k.code = code
			break
		}
		k.list, at = append(k.list, l...), at+e.Len
	}
	k.all = k.list
	return k
}

// isCode tells whether an error is this one, the value itself; 0 is none.
func isCode(err error, want api.Code) bool {
	if err == nil {
		return want == 0
	}
	code, ok := err.(api.Code)
	return ok && want != 0 && code == want
}

// What is worked out of the tests' own blocks is what was laid in them, and what layer 16 tells.
func TestOwnBlocks(t *testing.T) {
	for _, k := range every(t) {
		x := blockOf(k.b)
		if !slices.Equal(x.list, k.list) || x.code != k.code {
			t.Fatalf("%s: worked out: %s, %d; laid: %s, %d", k.name, short(x.list), int(x.code), short(k.list), int(k.code))
		}
		if l, err := whole.Decode(k.b); !slices.Equal(l, k.list) || !isCode(err, k.code) {
			t.Fatalf("%s: layer 16 tells %s, %v; laid: %s, %d", k.name, short(l), err, short(k.list), int(k.code))
		}
	}
}
