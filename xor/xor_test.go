package xor_test

import (
	"bytes"
	"math"
	"strings"
	"testing"

	"gaiter/api"
	"gaiter/bits"
	"gaiter/xor"
)

// The tests hold the calls against texts of 0s and 1s, which no shifting can get wrong.

// form is a value in a state, its code written out, and the state behind it.
type form struct {
	s    xor.State
	v    uint64
	code string
	next xor.State
}

func (f form) text() string { return strings.ReplaceAll(f.code, " ", "") }

// state tells a state in short.
func state(prev uint64, lead, n int) xor.State {
	return xor.State{Prev: prev, Lead: lead, Len: n}
}

// forms tells what the chapter and the issue name, written out.
func forms() []form {
	zeros, ones := strings.Repeat("0", 62), strings.Repeat("1", 64)
	all := uint64(math.MaxUint64)
	return []form{
		// The same value.
		{state(0, 0, 0), 0, "0", state(0, 0, 0)},
		{state(7, 0, 0), 7, "0", state(7, 0, 0)},
		{state(all, 0, 64), all, "0", state(all, 0, 64)},
		{state(1<<63, 63, 1), 1 << 63, "0", state(1<<63, 63, 1)},
		{state(9, 56, 4), 9, "0", state(9, 56, 4)},
		// What fits the window: from end to end, at one of its ends, and inside.
		{state(0, 56, 4), 0x90, "10 1001", state(0x90, 56, 4)},
		{state(0, 56, 4), 0xf0, "10 1111", state(0xf0, 56, 4)},
		{state(0x0f, 56, 4), 0x8f, "10 1000", state(0x8f, 56, 4)},
		{state(0xff, 56, 4), 0xef, "10 0001", state(0xef, 56, 4)},
		{state(0xf0, 56, 4), 0x90, "10 0110", state(0x90, 56, 4)},
		{state(5, 56, 4), 0x25, "10 0010", state(0x25, 56, 4)},
		// A bit ahead of the window, and one behind it.
		{state(0, 56, 4), 0x100, "11 110111 000000 1", state(0x100, 55, 1)},
		{state(0, 56, 4), 0x190, "11 110111 000100 11001", state(0x190, 55, 5)},
		{state(0x100, 56, 4), 0x80, "11 110111 000001 11", state(0x80, 55, 2)},
		{state(0, 56, 4), 0x08, "11 111100 000000 1", state(0x08, 60, 1)},
		{state(0, 56, 4), 0x98, "11 111000 000100 10011", state(0x98, 56, 5)},
		{state(0x1f8, 56, 4), 0, "11 110111 000101 111111", state(0, 55, 6)},
		// No window yet.
		{state(0, 0, 0), 1, "11 111111 000000 1", state(1, 63, 1)},
		{state(0, 0, 0), 16, "11 111011 000000 1", state(16, 59, 1)},
		{state(0, 0, 0), 1 << 63, "11 000000 000000 1", state(1<<63, 0, 1)},
		{state(3, 0, 0), 6, "11 111101 000010 101", state(6, 61, 3)},
		{state(0, 0, 0), 1<<63 | 1, "11 000000 111111 1" + zeros + "1", state(1<<63|1, 0, 64)},
		{state(0, 0, 0), all, "11 000000 111111 " + ones, state(all, 0, 64)},
		{state(all, 0, 0), 0, "11 000000 111111 " + ones, state(0, 0, 64)},
		{state(0, 0, 0), all >> 1, "11 000001 111110 " + ones[1:], state(all>>1, 1, 63)},
		{state(0, 0, 0), all << 1, "11 000000 111110 " + ones[1:], state(all<<1, 0, 63)},
		// Windows of 1 bit, at both ends and inside.
		{state(0, 63, 1), 1, "10 1", state(1, 63, 1)},
		{state(1, 63, 1), 0, "10 1", state(0, 63, 1)},
		{state(0, 63, 1), 2, "11 111110 000000 1", state(2, 62, 1)},
		{state(0, 63, 1), 3, "11 111110 000001 11", state(3, 62, 2)},
		{state(0, 0, 1), 1 << 63, "10 1", state(1<<63, 0, 1)},
		{state(0, 0, 1), 1 << 62, "11 000001 000000 1", state(1<<62, 1, 1)},
		{state(0, 0, 1), 3 << 62, "11 000000 000001 11", state(3<<62, 0, 2)},
		{state(0, 59, 1), 16, "10 1", state(16, 59, 1)},
		// Windows of 64 bits, and of 63.
		{state(0, 0, 64), 1, "10 00" + zeros[1:] + "1", state(1, 0, 64)},
		{state(0, 0, 64), 1 << 63, "10 10" + zeros, state(1<<63, 0, 64)},
		{state(0, 0, 64), all, "10 " + ones, state(all, 0, 64)},
		{state(all, 0, 64), 0, "10 " + ones, state(0, 0, 64)},
		{state(0, 1, 63), 1, "10 0" + zeros[1:] + "1", state(1, 1, 63)},
		{state(0, 1, 63), 1 << 63, "11 000000 000000 1", state(1<<63, 0, 1)},
		{state(0, 0, 63), 1 << 63, "10 1" + zeros, state(1<<63, 0, 63)},
		{state(0, 0, 63), 1, "11 111111 000000 1", state(1, 63, 1)},
	}
}

// binary tells the n lowest bits of a number, the highest one first.
func binary(v uint64, n int) string {
	s := make([]byte, n)
	for i := range s {
		s[n-1-i] = byte('0' + v%2)
		v /= 2
	}
	return string(s)
}

// number tells the number of which s are the bits.
func number(s string) uint64 {
	var v uint64
	for _, c := range s {
		v = 2*v + uint64(c-'0')
	}
	return v
}

// turned tells, of two texts, 1 where they are unlike.
func turned(a, b string) string {
	x := make([]byte, len(a))
	for i := range x {
		x[i] = '0'
		if a[i] != b[i] {
			x[i] = '1'
		}
	}
	return string(x)
}

// codeOf tells a value's code, and the state behind it, by the chapter's words.
func codeOf(s xor.State, v uint64) (string, xor.State) {
	x := turned(binary(s.Prev, 64), binary(v, 64))
	first, last := strings.Index(x, "1"), strings.LastIndex(x, "1")
	if first < 0 {
		return "0", s
	}
	end := s.Lead + s.Len
	if s.Len > 0 && !strings.Contains(x[:s.Lead]+x[end:], "1") {
		return "10" + x[s.Lead:end], state(v, s.Lead, s.Len)
	}
	body := x[first : last+1]
	return "11" + binary(uint64(first), 6) + binary(uint64(last-first), 6) + body, state(v, first, len(body))
}

// answer is what Get tells.
type answer struct {
	v    uint64
	next xor.State
	n    int
	err  error
}

// told tells what Get must answer of these bits, by the words of P7.1.
func told(s xor.State, all string, at int) answer {
	if at < 0 || at >= len(all) || all[at:] == "1" {
		return answer{err: api.ErrShort}
	}
	rest := all[at:]
	lead, head, n := s.Lead, 2, s.Len
	switch {
	case rest[0] == '0':
		return answer{s.Prev, s, 1, nil}
	case rest[1] == '0':
		if s.Len == 0 {
			return answer{err: api.ErrForm}
		}
	default:
		if len(rest) < 14 {
			return answer{err: api.ErrShort}
		}
		lead, head, n = int(number(rest[2:8])), 14, int(number(rest[8:14]))+1
		if lead+n > 64 {
			return answer{err: api.ErrForm}
		}
	}
	if len(rest) < head+n {
		return answer{err: api.ErrShort}
	}
	x := strings.Repeat("0", lead) + rest[head:head+n] + strings.Repeat("0", 64-lead-n)
	v := number(turned(binary(s.Prev, 64), x))
	code, next := codeOf(s, v)
	if code != rest[:head+n] {
		return answer{err: api.ErrForm}
	}
	return answer{v, next, head + n, nil}
}

func bytesText(b []byte) string {
	var s strings.Builder
	for _, c := range b {
		s.WriteString(binary(uint64(c), 8))
	}
	return s.String()
}

// text tells bits as 0s and 1s; it fails the test, if the bits may not be.
func text(t *testing.T, x bits.Bits) string {
	t.Helper()
	if x.N < 0 || len(x.B) != (x.N+7)/8 {
		t.Fatalf("%d bits in %d bytes", x.N, len(x.B))
	}
	all := bytesText(x.B)
	if strings.Contains(all[x.N:], "1") {
		t.Fatalf("a 1 behind the last bit: %d bits of %s", x.N, all)
	}
	return all[:x.N]
}

// made tells the bytes of a text, the bits of its last byte behind its end being 0.
func made(s string) []byte {
	b := make([]byte, (len(s)+7)/8)
	for i, c := range s {
		if c == '1' {
			b[i/8] += byte(128 >> (i % 8))
		}
	}
	return b
}

// whole fills a text up to a whole byte, since bytes end nowhere else: with 0s, or with 1s.
func whole(s, fill string) string {
	return s + strings.Repeat(fill, 7)[:(8-len(s)%8)%8]
}

// mixer tells numbers that hang on a start alone, the lowest bits as mixed as the highest ones.
func mixer(start uint64) func() uint64 {
	v := start
	return func() uint64 {
		v = v*6364136223846793005 + 1442695040888963407
		high := v
		v = v*6364136223846793005 + 1442695040888963407
		return high>>32<<32 | v>>32
	}
}

// mixed tells bytes that hang on a start alone.
func mixed(start uint64, size int) []byte {
	next := mixer(start)
	b := make([]byte, size)
	for i := range b {
		b[i] = byte(next())
	}
	return b
}

// pads tells n bits of several kinds, to stand ahead of a code, or behind it.
func pads(n int) []string {
	some := bytesText(mixed(uint64(n)+7, n/8+1))
	return []string{strings.Repeat("0", n), strings.Repeat("1", n), some[:n]}
}

// windows tells the states that may be, each window once, of a Prev.
func windows(prev uint64) []xor.State {
	list := []xor.State{state(prev, 0, 0)}
	for lead := range 64 {
		for n := 1; lead+n <= 64; n++ {
			list = append(list, state(prev, lead, n))
		}
	}
	return list
}

// someWindows tells those at the ends of what may be, and some between.
func someWindows(prev uint64) []xor.State {
	list := []xor.State{state(prev, 0, 0)}
	for _, w := range [][2]int{
		{0, 1}, {0, 2}, {0, 31}, {0, 63}, {0, 64}, {1, 1}, {1, 62}, {1, 63}, {20, 20}, {31, 2}, {32, 32},
		{48, 7}, {55, 9}, {56, 4}, {59, 1}, {61, 3}, {62, 1}, {62, 2}, {63, 1},
	} {
		list = append(list, state(prev, w[0], w[1]))
	}
	return list
}

// edges tells the x that lie at the edges of a state's window: its own ends, a bit inside, and a bit outside.
func edges(s xor.State) []uint64 {
	list := []uint64{0, 1, 1 << 63, 1<<63 | 1, math.MaxUint64}
	for _, first := range []int{s.Lead - 1, s.Lead, s.Lead + 1} {
		for _, last := range []int{s.Lead + s.Len - 2, s.Lead + s.Len - 1, s.Lead + s.Len} {
			if first < 0 || last > 63 || first > last {
				continue
			}
			ones := strings.Repeat("0", first) + strings.Repeat("1", last-first+1) + strings.Repeat("0", 63-last)
			ends := uint64(1)<<(63-first) | uint64(1)<<(63-last)
			list = append(list, number(ones), ends, uint64(1)<<(63-first), uint64(1)<<(63-last))
		}
	}
	return list
}

// values tells many values: x of every first and last 1, of which some also with mixed bits between.
func values(prev uint64) []uint64 {
	next := mixer(prev + 1)
	list := []uint64{prev}
	for first := range 64 {
		for last := first; last < 64; last++ {
			ends := uint64(1)<<(63-first) | uint64(1)<<(63-last)
			inside := next() >> first >> (63 - last) << (63 - last)
			list = append(list, prev^ends, prev^(ends|inside))
		}
	}
	return list
}

func prevs() []uint64 {
	return []uint64{0, math.MaxUint64, 0x0123456789abcdef, 1<<63 | 1}
}

// hold fails the test, if Get answers otherwise than it must.
func hold(t *testing.T, s xor.State, b []byte, at int, want answer) {
	t.Helper()
	v, next, n, err := xor.Get(s, b, at)
	if got := (answer{v, next, n, err}); got != want {
		t.Fatalf("Get(%v, %s, %d): %v; want %v", s, bytesText(b), at, got, want)
	}
}

// holdTold holds Get against told.
func holdTold(t *testing.T, s xor.State, b []byte, at int) {
	t.Helper()
	hold(t, s, b, at, told(s, bytesText(b), at))
}

// holdCode fails the test, if Code answers otherwise than it must.
func holdCode(t *testing.T, s xor.State, v uint64, code string, next xor.State) {
	t.Helper()
	x, got := xor.Code(s, v)
	if is := text(t, x); is != code || got != next {
		t.Fatalf("Code(%v, %x): %s, %v; want %s, %v", s, v, is, got, code, next)
	}
}

func short() answer { return answer{err: api.ErrShort} }

func badForm() answer { return answer{err: api.ErrForm} }

func (f form) answer() answer { return answer{f.v, f.next, len(f.text()), nil} }

func TestCodeTellsTheForms(t *testing.T) {
	for _, f := range forms() {
		holdCode(t, f.s, f.v, f.text(), f.next)
	}
}

func TestCodeTellsBytes(t *testing.T) {
	for _, c := range []struct {
		s    xor.State
		v    uint64
		want []byte
		n    int
	}{
		{state(5, 0, 0), 5, []byte{0}, 1},
		{state(0, 0, 0), 16, []byte{0xfb, 0x02}, 15},
		{state(0, 56, 4), 0x90, []byte{0xa4}, 6},
		{state(0, 0, 64), 0x0123456789abcdef, []byte{0x80, 0x48, 0xd1, 0x59, 0xe2, 0x6a, 0xf3, 0x7b, 0xc0}, 66},
		{state(0, 0, 0), 0x8123456789abcdef, []byte{0xc0, 0xfe, 0x04, 0x8d, 0x15, 0x9e, 0x26, 0xaf, 0x37, 0xbc}, 78},
	} {
		if got, _ := xor.Code(c.s, c.v); got.N != c.n || !bytes.Equal(got.B, c.want) {
			t.Errorf("%v, %x: %d, %x", c.s, c.v, got.N, got.B)
		}
	}
}

// The bit 0, in every state, which stays as it is.
func TestCodeOfTheSameValue(t *testing.T) {
	for _, prev := range prevs() {
		for _, s := range windows(prev) {
			holdCode(t, s, prev, "0", s)
		}
	}
}

// x of one bit at each of its 64 places, in every state.
func TestCodeOfOneBit(t *testing.T) {
	for i, s := range windows(0) {
		s.Prev = prevs()[i%len(prevs())]
		for place := range 64 {
			v := s.Prev ^ 1<<(63-place)
			want, next := "11"+binary(uint64(place), 6)+"0000001", state(v, place, 1)
			if place >= s.Lead && place < s.Lead+s.Len {
				body := []byte(strings.Repeat("0", s.Len))
				body[place-s.Lead] = '1'
				want, next = "10"+string(body), state(v, s.Lead, s.Len)
			}
			holdCode(t, s, v, want, next)
		}
	}
}

func TestCodeAtTheEdgesOfTheWindow(t *testing.T) {
	for i, s := range windows(0) {
		s.Prev = prevs()[i%len(prevs())]
		for _, x := range edges(s) {
			code, next := codeOf(s, s.Prev^x)
			holdCode(t, s, s.Prev^x, code, next)
		}
	}
}

// x of every first and last 1.
func TestCodeIsByTheWords(t *testing.T) {
	for _, prev := range prevs() {
		for _, s := range someWindows(prev) {
			for _, v := range values(prev) {
				code, next := codeOf(s, v)
				holdCode(t, s, v, code, next)
			}
		}
	}
}

func TestGetTellsTheForms(t *testing.T) {
	for _, f := range forms() {
		for _, fill := range []string{"0", "1"} {
			hold(t, f.s, made(whole(f.text(), fill)), 0, f.answer())
		}
	}
}

// From each place inside a byte, so that the longest one lies across eleven bytes.
func TestGetFromInsideOtherBits(t *testing.T) {
	for _, f := range forms() {
		for ahead := range 25 {
			for _, before := range pads(ahead) {
				for _, behind := range append(pads(7), pads(80)...) {
					for _, fill := range []string{"0", "1"} {
						b := made(whole(before+f.text()+behind, fill))
						hold(t, f.s, b, ahead, f.answer())
					}
				}
			}
		}
	}
}

// A code may end just where b does.
func TestGetOfTheLastBits(t *testing.T) {
	for _, f := range forms() {
		for more := range 4 {
			ahead := (8-len(f.text())%8)%8 + 8*more
			for _, before := range pads(ahead) {
				hold(t, f.s, made(before+f.text()), ahead, f.answer())
			}
		}
	}
}

func TestGetIsByTheWords(t *testing.T) {
	for _, prev := range prevs() {
		for i, s := range someWindows(prev) {
			for j, v := range values(prev) {
				code, next := codeOf(s, v)
				ahead := (i + j) % 9
				b := made(pads(ahead)[j%3] + code)
				hold(t, s, b, ahead, answer{v, next, len(code), nil})
			}
		}
	}
}

func TestGetAtTheEdgesOfTheWindow(t *testing.T) {
	for i, s := range windows(0) {
		s.Prev = prevs()[i%len(prevs())]
		for j, x := range edges(s) {
			code, next := codeOf(s, s.Prev^x)
			b := made(pads(j)[i%3] + code)
			hold(t, s, b, j, answer{s.Prev ^ x, next, len(code), nil})
		}
	}
}

// The bit 0 tells every state as it was.
func TestGetOfTheSameValue(t *testing.T) {
	for _, prev := range prevs() {
		for _, s := range windows(prev) {
			hold(t, s, []byte{0}, 7, answer{prev, s, 1, nil})
			hold(t, s, []byte{0xef}, 3, answer{prev, s, 1, nil})
		}
	}
}

func TestGetFromWhereNoBitIs(t *testing.T) {
	lists := [][]byte{nil, {}, {0}, {255}, {0, 0}, bytes.Repeat([]byte{0}, 40), bytes.Repeat([]byte{255}, 40), mixed(5, 40)}
	for _, f := range forms() {
		lists = append(lists, made(f.text()))
	}
	for _, b := range lists {
		for _, s := range []xor.State{state(0, 0, 0), state(9, 0, 0), state(9, 56, 4), state(9, 0, 64), state(9, 63, 1)} {
			for at := 1; at <= 90; at++ {
				hold(t, s, b, -at, short())
			}
			for more := range 90 {
				hold(t, s, b, 8*len(b)+more, short())
				hold(t, s, b, math.MaxInt-more, short())
				hold(t, s, b, math.MinInt+more, short())
			}
			for _, at := range []int{math.MinInt32, math.MaxInt32, math.MaxInt / 2, math.MaxInt / 8, math.MaxInt/8 + 1} {
				hold(t, s, b, at, short())
			}
		}
	}
}

// cutOff holds what Get answers of the first bits of a text, whatever stands ahead of it; these end where bytes do.
func cutOff(t *testing.T, s xor.State, code string, cut int, want answer) {
	t.Helper()
	for more := range 3 {
		ahead := (8-cut%8)%8 + 8*more
		for _, before := range pads(ahead) {
			for _, room := range []string{"0", "1"} {
				memory := made(whole(before+code, room) + strings.Repeat(room, 80))
				hold(t, s, bytes.Clone(memory[:(ahead+cut)/8]), ahead, want)
				// The room behind a slice's end isn't handed in: its bits aren't there.
				hold(t, s, memory[:(ahead+cut)/8], ahead, want)
			}
		}
	}
}

// Each code at each of its bits: nothing is left, not both numbers, or not all the bits behind.
func TestGetOfWhatIsCutOff(t *testing.T) {
	for _, f := range forms() {
		for cut := range len(f.text()) {
			cutOff(t, f.s, f.text(), cut, short())
		}
	}
}

// What is cut off is too short, even if what is there is no code's beginning.
func TestGetOfWhatIsCutOffAndNoCode(t *testing.T) {
	zeros := strings.Repeat("0", 64)
	for _, c := range []struct {
		s    xor.State
		code string
	}{
		{state(0, 56, 4), "10" + zeros[:4]},
		{state(7, 0, 64), "10" + zeros},
		{state(0, 0, 1), "10" + zeros[:1]},
		{state(0, 0, 0), "11" + "000000" + "111111" + zeros},
		{state(0, 0, 0), "11" + "111101" + "000010" + "011"},
		{state(0, 0, 0), "11" + "111101" + "000010" + "110"},
		{state(0, 60, 4), "11" + "111101" + "000010" + "111"},
		{state(0, 0, 64), "11" + "000000" + "000100" + "11111"},
		{state(0, 0, 64), "11" + "000000" + "111111" + strings.Repeat("1", 64)},
	} {
		holdTold(t, c.s, made(c.code), 0)
		hold(t, c.s, made(c.code), 0, badForm())
		for cut := range len(c.code) {
			cutOff(t, c.s, c.code, cut, short())
		}
	}
}

// Numbers that are above 64 together with 1 are short as long as not both are there, and none else from there on.
func TestGetOfNumbersThatAreTooLarge(t *testing.T) {
	refused := 0
	for lead := range 64 {
		for less := range 64 {
			code := "11" + binary(uint64(lead), 6) + binary(uint64(less), 6) + strings.Repeat("1", 66)
			if lead+less+1 <= 64 {
				hold(t, state(5, 0, 0), made(code), 0, told(state(5, 0, 0), code, 0))
				continue
			}
			refused++
			for _, s := range []xor.State{state(5, 0, 0), state(5, 0, 64), state(5, 30, 9), state(5, 63, 1)} {
				for _, fill := range []string{"0", "1"} {
					hold(t, s, made(whole(code, fill)), 0, badForm())
					hold(t, s, made(whole("1"+code, fill)), 1, badForm())
				}
				// 14 bits end with a byte, if 2 are ahead.
				hold(t, s, made("00"+code[:14]), 2, badForm())
				hold(t, s, made("111"+code[:21]), 3, badForm())
				hold(t, s, made("111"+code[:13]), 3, short())
			}
		}
	}
	if refused != 64*63/2 {
		t.Error(refused)
	}
}

// Both numbers and 1 are just 64, and just above.
func TestGetOfTheLargestNumbers(t *testing.T) {
	s := state(0, 0, 0)
	for lead := range 64 {
		n := 64 - lead
		code := "11" + binary(uint64(lead), 6) + binary(uint64(n-1), 6) + strings.Repeat("1", n)
		want := uint64(math.MaxUint64) >> lead
		hold(t, s, made(code), 0, answer{want, state(want, lead, n), 14 + n, nil})
		if n < 64 {
			hold(t, s, made("11"+binary(uint64(lead), 6)+binary(uint64(n), 6)+strings.Repeat("1", 66)), 0, badForm())
		}
	}
}

// Without a window 10 is no code, also where nothing is behind it.
func TestGetWithoutAWindow(t *testing.T) {
	for _, prev := range prevs() {
		s := state(prev, 0, 0)
		for ahead := range 17 {
			for _, before := range pads(ahead) {
				for _, behind := range append(append(pads(0), pads(5)...), pads(80)...) {
					for _, fill := range []string{"0", "1"} {
						hold(t, s, made(whole(before+"10"+behind, fill)), ahead, badForm())
					}
				}
			}
		}
		hold(t, s, []byte{2}, 6, badForm())
		hold(t, s, []byte{1}, 7, short())
	}
}

// The same value's code is the bit 0: 10 and 0s alone are none.
func TestGetOfTheSameValueInTheWindow(t *testing.T) {
	for i, s := range windows(7)[1:] {
		code := "10" + strings.Repeat("0", s.Len)
		ahead := i % 17
		for _, before := range pads(ahead) {
			for _, fill := range []string{"0", "1"} {
				hold(t, s, made(whole(before+code+strings.Repeat(fill, 9), fill)), ahead, badForm())
			}
		}
		cutOff(t, s, code, len(code), badForm())
		cutOff(t, s, code, len(code)-1, short())
	}
}

// Behind 11, bits whose first one is 0, or whose last one, are no code: of every such number of them.
func TestGetOfBitsThatBeginOrEndWith0(t *testing.T) {
	for n := 1; n <= 64; n++ {
		bodies := []string{strings.Repeat("0", n), "0" + strings.Repeat("1", n-1), strings.Repeat("1", n-1) + "0"}
		if n > 2 {
			bodies = append(bodies, "01"+strings.Repeat("0", n-2), strings.Repeat("0", n-2)+"10", "0"+strings.Repeat("1", n-2)+"0")
		}
		for lead := range 65 - n {
			for _, body := range bodies {
				code := "11" + binary(uint64(lead), 6) + binary(uint64(n-1), 6) + body
				for _, s := range []xor.State{state(0, 0, 0), state(math.MaxUint64, 0, 0), state(9, 0, 1), state(9, 63, 1), state(9, lead, n)} {
					hold(t, s, made(whole(code, "1")), 0, badForm())
					hold(t, s, made(whole("101"+code, "0")), 3, badForm())
				}
			}
		}
	}
}

// Behind 11, what would have fit the window is no code, whether it ends where the window does or inside.
func TestGetOfWhatFitsTheWindow(t *testing.T) {
	held := 0
	for i, s := range windows(0x0123456789abcdef) {
		for _, x := range append(edges(s), 1<<40, 3<<31) {
			if x == 0 {
				continue
			}
			code, next := codeOf(state(s.Prev, 0, 0), s.Prev^x)
			want := answer{s.Prev ^ x, next, len(code), nil}
			if shorter, _ := codeOf(s, s.Prev^x); shorter != code {
				want = badForm()
				held++
			}
			ahead := i % 9
			for _, before := range pads(ahead) {
				hold(t, s, made(whole(before+code, "1")), ahead, want)
			}
		}
	}
	if held < 10000 {
		t.Errorf("only %d", held)
	}
}

// Lengths that are alike by both ways: 10 and n+12 bits of the window, 11 and n.
func TestGetOfCodesOfOneLength(t *testing.T) {
	for n := 1; n <= 52; n++ {
		for lead := range 64 - n - 12 + 1 {
			s := state(3, lead, n+12)
			for first := lead; first <= lead+12; first++ {
				code := "11" + binary(uint64(first), 6) + binary(uint64(n-1), 6) + strings.Repeat("1", n)
				hold(t, s, made(code), 0, badForm())
			}
		}
	}
}

// All bits that a code of up to 16 bits can have, and those that only look like one.
func TestGetOfEveryTwoBytes(t *testing.T) {
	for _, s := range []xor.State{state(0, 0, 0), state(9, 56, 4), state(9, 63, 1), state(9, 0, 1), state(9, 50, 14), state(9, 0, 64)} {
		for i := range 1 << 16 {
			holdTold(t, s, []byte{byte(i >> 8), byte(i)}, 0)
		}
		for i := range 1 << 10 {
			for at := -1; at <= 17; at++ {
				holdTold(t, s, []byte{byte(i >> 2), byte(i<<6 | i>>4)}, at)
			}
		}
	}
}

func TestGetOfMixedBytes(t *testing.T) {
	for start := range uint64(300) {
		b := mixed(start, int(start%40))
		list := someWindows(start)
		for at := -1; at <= 8*len(b)+1; at++ {
			holdTold(t, list[(at+1)%len(list)], b, at)
			holdTold(t, state(start, 0, 0), b, at)
		}
	}
}

// The error is the api's own value: one that is only like it, or wraps it, is another one.
func TestErrorsAreTheCodesThemselves(t *testing.T) {
	w := state(9, 56, 4)
	for _, c := range []struct {
		s    xor.State
		b    []byte
		at   int
		want api.Code
	}{
		{w, nil, 0, api.ErrShort},
		{w, []byte{0}, -1, api.ErrShort},
		{w, []byte{0}, 8, api.ErrShort},
		{w, []byte{1}, 7, api.ErrShort},
		{w, []byte{2}, 6, api.ErrShort},
		{w, []byte{0xc0}, 0, api.ErrShort},
		{w, []byte{0xc0, 0xff}, 0, api.ErrShort},
		{state(9, 0, 0), []byte{2}, 6, api.ErrForm},
		{w, []byte{0x80}, 0, api.ErrForm},
		{w, []byte{0xff, 0xff}, 0, api.ErrForm},
		{w, []byte{0xf8, 0}, 0, api.ErrForm},
		{w, []byte{0xf8, 0x02}, 0, api.ErrForm},
	} {
		_, _, _, err := xor.Get(c.s, c.b, c.at)
		if code, ok := err.(api.Code); !ok || code != c.want {
			t.Errorf("%v, %v, %d: %#v", c.s, c.b, c.at, err)
		}
	}
}

// overwrite turns every bit of a slice's memory, that behind its end, too.
func overwrite(b []byte) {
	b = b[:cap(b)]
	for i := range b {
		b[i] = ^b[i]
	}
}

func TestCodeIsNewMemory(t *testing.T) {
	for _, f := range forms() {
		first, _ := xor.Code(f.s, f.v)
		second, _ := xor.Code(f.s, f.v)
		overwrite(first.B)
		if got := text(t, second); got != f.text() {
			t.Errorf("%v, %x: two answers share memory: %s", f.s, f.v, got)
		}
		holdCode(t, f.s, f.v, f.text(), f.next)
	}
}

// What was told stays as it was, whatever is asked behind it.
func TestWhatWasToldStays(t *testing.T) {
	var all []bits.Bits
	for _, f := range forms() {
		x, _ := xor.Code(f.s, f.v)
		all = append(all, x)
	}
	for i, f := range forms() {
		if got := text(t, all[i]); got != f.text() {
			t.Fatalf("%v, %x: %s, want %s", f.s, f.v, got, f.text())
		}
		overwrite(all[i].B)
	}
}

func TestGetChangesNothing(t *testing.T) {
	lists := [][]byte{nil, {0}, {255}, {0x80, 0}, bytes.Repeat([]byte{255}, 9), mixed(3, 40)}
	for _, f := range forms() {
		lists = append(lists, made(f.text()))
	}
	for _, b := range lists {
		for _, room := range []byte{0, 1, 0x5a, 255} {
			memory := append(bytes.Clone(b), bytes.Repeat([]byte{room}, 16)...)
			before := bytes.Clone(memory)
			for at := -1; at <= 8*len(b)+1; at++ {
				for _, s := range []xor.State{state(5, 0, 0), state(5, 0, 64), state(5, 56, 4)} {
					xor.Get(s, memory[:len(b)], at)
					// Held against it behind each call: two changes may undo each other.
					if !bytes.Equal(memory, before) {
						t.Fatalf("Get(%v, %v, %d): %v, was %v", s, b, at, memory, before)
					}
				}
			}
		}
	}
}

// Both calls hang on what they are given alone, not on what an earlier one saw.
func TestNothingIsKept(t *testing.T) {
	w, none := state(9, 56, 4), state(9, 0, 0)
	b := []byte{0x90}
	hold(t, w, b, 0, answer{9 ^ 0x40, state(9^0x40, 56, 4), 6, nil})
	hold(t, none, b, 0, badForm())
	b[0] = 0x80
	hold(t, w, b, 0, badForm())
	b[0] = 0xc0
	hold(t, w, b, 0, short())
	b[0] = 0
	hold(t, none, b, 0, answer{9, none, 1, nil})
	hold(t, w, b, 0, answer{9, w, 1, nil})
	holdCode(t, none, 9^0x40, "11"+"111001"+"000000"+"1", state(9^0x40, 57, 1))
	holdCode(t, w, 9^0x40, "10"+"0100", state(9^0x40, 56, 4))
	holdCode(t, none, 9^0x40, "11"+"111001"+"000000"+"1", state(9^0x40, 57, 1))
}

// steps tells values, one behind the other, that stay, go on within a window, or leave it.
func steps(start uint64, n int) []uint64 {
	next := mixer(start)
	v := next()
	var list []uint64
	for range n {
		switch next() % 5 {
		case 0: // the same one
		case 1:
			v ^= 1 << (next() % 64)
		case 2:
			v ^= next() >> (next() % 64)
		case 3:
			v ^= next() << (next() % 64)
		default:
			v ^= next() % 16 << 30
		}
		list = append(list, v)
	}
	return list
}

func TestWhatWasPutIsGot(t *testing.T) {
	for start := range uint64(60) {
		for _, before := range pads(int(start % 19)) {
			for _, fill := range []uint64{0, math.MaxUint64} {
				first := someWindows(start)[start%20]
				all := bits.Bits{B: made(before), N: len(before)}
				s := first
				for _, v := range steps(start, 60) {
					code, next := xor.Code(s, v)
					all, s = bits.Join(all, code), next
				}
				end := all.N
				all = bits.Put(all, fill, 15)
				holdChain(t, first, all.B, len(before), end, steps(start, 60))
			}
		}
	}
}

// holdChain fails the test, if Get tells other values than these, one behind the other, from at up to end, or other states than Code.
func holdChain(t *testing.T, s xor.State, b []byte, at, end int, list []uint64) {
	t.Helper()
	for i, want := range list {
		code, behind := xor.Code(s, want)
		v, next, n, err := xor.Get(s, b, at)
		if v != want || next != behind || n != code.N || err != nil {
			t.Fatalf("the %d-th, at %d, in %v: %x, %v, %d, %v; want %x, %v, %d", i, at, s, v, next, n, err, want, behind, code.N)
		}
		if next.Prev != want || !mayBe(next) {
			t.Fatalf("the state behind the %d-th, %x: %v", i, want, next)
		}
		s, at = next, at+n
	}
	if at != end {
		t.Fatalf("at %d, want %d", at, end)
	}
}

// mayBe tells whether a state may be, by the chapter's words.
func mayBe(s xor.State) bool {
	if s.Len == 0 {
		return s.Lead == 0
	}
	return s.Lead >= 0 && s.Lead <= 63 && s.Len > 0 && s.Len <= 64 && s.Lead+s.Len <= 64
}

// In every state, of the values at the edges of its window.
func TestWhatWasPutInAnyStateIsGot(t *testing.T) {
	for i, s := range windows(0xfedcba9876543210) {
		ahead := i % 11
		before := pads(ahead)[i%3]
		for _, x := range edges(s) {
			code, next := xor.Code(s, s.Prev^x)
			y := bits.Join(bits.Bits{B: made(before), N: ahead}, code)
			y = bits.Put(y, math.MaxUint64, 3)
			hold(t, s, y.B, ahead, answer{s.Prev ^ x, next, code.N, nil})
		}
	}
}

func TestWhatIsGotHasThoseBitsAsItsCode(t *testing.T) {
	kinds := map[string]int{}
	check := func(s xor.State, b []byte, at int) {
		t.Helper()
		v, next, n, err := xor.Get(s, b, at)
		if err != nil {
			return
		}
		all := bytesText(b)
		code, behind := xor.Code(s, v)
		if n < 1 || n > len(all)-at || text(t, code) != all[at:at+n] || behind != next || !mayBe(next) {
			t.Fatalf("%s from %d in %v: %x, %v, %d", all, at, s, v, next, n)
		}
		kinds[all[at:at+min(n, 2)]]++
	}
	for start := range uint64(300) {
		b := mixed(start, 60)
		list := someWindows(start)
		for at := range 8 * len(b) {
			check(list[at%len(list)], b, at)
			check(state(start, 0, 0), b, at)
		}
	}
	for start := range uint64(2000) {
		b := mixed(start, 14)
		b[0] |= 0xf
		check(state(start, 0, 0), b, 4)
		check(state(start, 63, 1), b, 4)
	}
	for _, kind := range []string{"0", "10", "11"} {
		if kinds[kind] < 5000 {
			t.Errorf("only %d values of %s were got", kinds[kind], kind)
		}
	}
}
