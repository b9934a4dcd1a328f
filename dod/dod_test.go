package dod_test

import (
	"bytes"
	"math"
	"math/big"
	"strings"
	"testing"

	"gaiter/api"
	"gaiter/bits"
	"gaiter/dod"
)

// The tests hold the calls against texts of 0s and 1s, and numbers that know no end: no shifting can get these wrong.

// form is a number, and its code written out.
type form struct {
	v    int64
	code string
}

// named tells the numbers that the document, or the issue, names.
func named() []form {
	zeros, ones := strings.Repeat("0", 51), strings.Repeat("1", 51)
	return []form{
		{0, "0"},
		{1, "10 0000001"},
		{-1, "10 1111111"},
		{2, "10 0000010"},
		{-2, "10 1111110"},
		{62, "10 0111110"},
		{63, "10 0111111"},
		{-63, "10 1000001"},
		{-64, "10 1000000"},
		{64, "110 001000000"},
		{-65, "110 110111111"},
		{65, "110 001000001"},
		{-66, "110 110111110"},
		{127, "110 001111111"},
		{128, "110 010000000"},
		{-128, "110 110000000"},
		{-129, "110 101111111"},
		{254, "110 011111110"},
		{255, "110 011111111"},
		{-255, "110 100000001"},
		{-256, "110 100000000"},
		{256, "1110 000100000000"},
		{-257, "1110 111011111111"},
		{257, "1110 000100000001"},
		{-258, "1110 111011111110"},
		{2046, "1110 011111111110"},
		{2047, "1110 011111111111"},
		{-2047, "1110 100000000001"},
		{-2048, "1110 100000000000"},
		{2048, "1111 0" + zeros + "100000000000"},
		{-2049, "1111 1" + ones + "011111111111"},
		{2049, "1111 0" + zeros + "100000000001"},
		{-2050, "1111 1" + ones + "011111111110"},
		{math.MaxInt64, "1111 0" + ones + "111111111111"},
		{math.MaxInt64 - 1, "1111 0" + ones + "111111111110"},
		{math.MinInt64, "1111 1" + zeros + "000000000000"},
		{math.MinInt64 + 1, "1111 1" + zeros + "000000000001"},
	}
}

func (f form) text() string { return strings.ReplaceAll(f.code, " ", "") }

// shape is how a code looks: what begins it, and how many bits are behind that.
type shape struct {
	head        string
	body        int
	least, most int64 // what these bits have room for
}

func shapes() []shape {
	return []shape{
		{"0", 0, 0, 0},
		{"10", 7, -64, 63},
		{"110", 9, -256, 255},
		{"1110", 12, -2048, 2047},
		{"1111", 64, math.MinInt64, math.MaxInt64},
	}
}

// complement tells the n bits of a number of two's complement.
func complement(v int64, n int) string {
	number := big.NewInt(v)
	if number.Sign() < 0 {
		number.Add(number, new(big.Int).Exp(big.NewInt(2), big.NewInt(int64(n)), nil))
	}
	s := number.Text(2)
	if n == 0 {
		return ""
	}
	return strings.Repeat("0", n-len(s)) + s
}

// number tells the number of which s are the bits of two's complement.
func number(s string) int64 {
	sum := new(big.Int)
	for i, c := range s {
		weight := big.NewInt(int64(c - '0'))
		weight.Mul(weight, new(big.Int).Exp(big.NewInt(2), big.NewInt(int64(len(s)-1-i)), nil))
		if i == 0 {
			weight.Neg(weight)
		}
		sum.Add(sum, weight)
	}
	return sum.Int64()
}

// codeOf tells a number's code by the chapter's words.
func codeOf(v int64) string {
	for _, s := range shapes() {
		if v >= s.least && v <= s.most {
			return s.head + complement(v, s.body)
		}
	}
	panic("no shape")
}

// told tells what Get must answer of these bits, by the words of P5.1.
func told(all string, at int) (int64, int, error) {
	if at < 0 || at > len(all) {
		return 0, 0, api.ErrShort
	}
	for _, s := range shapes() {
		rest, is := strings.CutPrefix(all[at:], s.head)
		if !is {
			continue
		}
		if len(rest) < s.body {
			return 0, 0, api.ErrShort
		}
		v := number(rest[:s.body])
		if codeOf(v) != s.head+rest[:s.body] {
			return 0, 0, api.ErrForm
		}
		return v, len(s.head) + s.body, nil
	}
	return 0, 0, api.ErrShort
}

func bytesText(b []byte) string {
	var s strings.Builder
	for _, c := range b {
		for weight := 128; weight > 0; weight /= 2 {
			if int(c)&weight != 0 {
				s.WriteByte('1')
			} else {
				s.WriteByte('0')
			}
		}
	}
	return s.String()
}

// text tells bits as 0s and 1s; it fails the test, if the bits may not be.
func text(t *testing.T, x bits.Bits) string {
	t.Helper()
	if x.N < 0 || len(x.B) != (x.N+7)/8 {
		t.Fatalf("%d bits in %d bytes", x.N, len(x.B))
	}
	all := bytesText(x.B)
	if strings.Contains(all[x.N:], "1") {
		t.Fatalf("a 1 behind the last bit: %d bits of %s", x.N, all)
	}
	return all[:x.N]
}

// made tells the bytes of a text, those of its last byte behind its end being 0.
func made(s string) []byte {
	b := make([]byte, (len(s)+7)/8)
	for i, c := range s {
		if c == '1' {
			b[i/8] += byte(128 >> (i % 8))
		}
	}
	return b
}

// whole fills a text up to a whole byte, since bytes end nowhere else: with 0s, or with 1s.
func whole(s, fill string) string {
	return s + strings.Repeat(fill, 7)[:(8-len(s)%8)%8]
}

// mixed tells bytes that hang on a start alone.
func mixed(start uint64, size int) []byte {
	b := make([]byte, size)
	v := start
	for i := range b {
		v = v*6364136223846793005 + 1442695040888963407
		b[i] = byte(v >> 56)
	}
	return b
}

// pads tells n bits of several kinds, to stand ahead of a code, or behind it.
func pads(n int) []string {
	some := bytesText(mixed(uint64(n)+7, n/8+1))
	return []string{strings.Repeat("0", n), strings.Repeat("1", n), some[:n]}
}

// numbers tells the named ones, all near 0, those around each power of two and its opposite, and mixed ones of every length.
func numbers() []int64 {
	var list []int64
	for _, f := range named() {
		list = append(list, f.v)
	}
	for v := int64(-2100); v <= 2100; v++ {
		list = append(list, v)
	}
	w := uint64(1)
	for n := range 64 {
		for off := range uint64(5) {
			list = append(list, int64(1<<n+off-2), int64(-(1<<n)+off-2))
		}
		for range 20 {
			w = w*6364136223846793005 + 1442695040888963407
			list = append(list, int64(w>>n), -int64(w>>n))
		}
	}
	return list
}

// longer tells the bits that look like a code of a number that has a shorter one.
func longer(v int64) []string {
	var list []string
	for _, s := range shapes() {
		if v < s.least || v > s.most {
			continue
		}
		if code := s.head + complement(v, s.body); code != codeOf(v) {
			list = append(list, code)
		}
	}
	return list
}

// hold fails the test, if Get answers otherwise than it must.
func hold(t *testing.T, b []byte, at int, v int64, n int, want error) {
	t.Helper()
	gotV, gotN, err := dod.Get(b, at)
	if gotV != v || gotN != n || err != want {
		t.Fatalf("Get(%s, %d): %d, %d, %v; want %d, %d, %v", bytesText(b), at, gotV, gotN, err, v, n, want)
	}
}

// holdTold holds Get against told.
func holdTold(t *testing.T, b []byte, at int) {
	t.Helper()
	v, n, err := told(bytesText(b), at)
	hold(t, b, at, v, n, err)
}

func TestCodeTellsTheForms(t *testing.T) {
	for _, f := range named() {
		if got := text(t, dod.Code(f.v)); got != f.text() {
			t.Errorf("%d: %s, want %s", f.v, got, f.text())
		}
	}
}

func TestCodeTellsBytes(t *testing.T) {
	for _, c := range []struct {
		v    int64
		want []byte
		n    int
	}{
		{0, []byte{0}, 1},
		{1, []byte{0x80, 0x80}, 9},
		{-65, []byte{0xdb, 0xf0}, 12},
		{-257, []byte{0xee, 0xff}, 16},
		{0x123456789abcdef1, []byte{0xf1, 0x23, 0x45, 0x67, 0x89, 0xab, 0xcd, 0xef, 0x10}, 68},
	} {
		if got := dod.Code(c.v); got.N != c.n || !bytes.Equal(got.B, c.want) {
			t.Errorf("%d: %v", c.v, got)
		}
	}
}

// Of many numbers, at both sides of each end of a room, too.
func TestCodeIsByTheWords(t *testing.T) {
	for _, v := range numbers() {
		if got, want := text(t, dod.Code(v)), codeOf(v); got != want {
			t.Fatalf("%d: %s, want %s", v, got, want)
		}
	}
}

func TestGetTellsTheForms(t *testing.T) {
	for _, f := range named() {
		for _, fill := range []string{"0", "1"} {
			hold(t, made(whole(f.text(), fill)), 0, f.v, len(f.text()), nil)
		}
	}
}

func TestGetFromInsideOtherBits(t *testing.T) {
	for _, f := range named() {
		for ahead := range 25 {
			for _, before := range pads(ahead) {
				for _, behind := range append(pads(7), pads(80)...) {
					for _, fill := range []string{"0", "1"} {
						b := made(whole(before+f.text()+behind, fill))
						hold(t, b, ahead, f.v, len(f.text()), nil)
					}
				}
			}
		}
	}
}

// A code may end just where b does.
func TestGetOfTheLastBits(t *testing.T) {
	for _, f := range named() {
		for more := range 4 {
			ahead := (8-len(f.text())%8)%8 + 8*more
			for _, before := range pads(ahead) {
				hold(t, made(before+f.text()), ahead, f.v, len(f.text()), nil)
			}
		}
	}
}

// Codes one behind the other are gone through by how many bits each has.
func TestGetOneBehindTheOther(t *testing.T) {
	var all strings.Builder
	for _, v := range numbers() {
		all.WriteString(codeOf(v))
	}
	b := made(all.String())
	at := 0
	for i, want := range numbers() {
		v, n, err := dod.Get(b, at)
		if v != want || n != len(codeOf(want)) || err != nil {
			t.Fatalf("the %d-th, at %d: %d, %d, %v; want %d", i, at, v, n, err, want)
		}
		at += n
	}
	if at != all.Len() {
		t.Errorf("%d bits, want %d", at, all.Len())
	}
}

func TestGetFromWhereNoBitIs(t *testing.T) {
	lists := [][]byte{nil, {}, {0}, {255}, {0, 0}, bytes.Repeat([]byte{0}, 40), bytes.Repeat([]byte{255}, 40), mixed(5, 40)}
	for _, f := range named() {
		lists = append(lists, made(f.text()))
	}
	for _, b := range lists {
		for at := 1; at <= 70; at++ {
			hold(t, b, -at, 0, 0, api.ErrShort)
		}
		for _, at := range []int{math.MinInt, math.MinInt + 1, math.MinInt + 4, math.MinInt + 64, math.MinInt32} {
			hold(t, b, at, 0, 0, api.ErrShort)
		}
		for more := range 80 {
			hold(t, b, 8*len(b)+more, 0, 0, api.ErrShort)
		}
		for less := range 80 {
			hold(t, b, math.MaxInt-less, 0, 0, api.ErrShort)
		}
		for _, at := range []int{math.MaxInt32, math.MaxInt / 2, math.MaxInt / 8, math.MaxInt/8 + 1} {
			hold(t, b, at, 0, 0, api.ErrShort)
		}
	}
}

// A code is cut off at each of its bits, whatever stands ahead of it; so are bits that are only like a code.
func TestGetOfWhatIsCutOff(t *testing.T) {
	var codes []string
	for _, f := range named() {
		codes = append(codes, f.text())
		codes = append(codes, longer(f.v)...)
	}
	for _, code := range codes {
		for cut := range len(code) {
			for more := range 3 {
				ahead := (8-cut%8)%8 + 8*more
				for _, before := range pads(ahead) {
					memory := made(whole(before+code, "1") + strings.Repeat("1", 80))
					hold(t, bytes.Clone(memory[:(ahead+cut)/8]), ahead, 0, 0, api.ErrShort)
					// The room behind a slice's end isn't handed in: its bits aren't there.
					hold(t, memory[:(ahead+cut)/8], ahead, 0, 0, api.ErrShort)
				}
			}
		}
	}
}

// The places that the issue names, written out: among the 1s, behind them, and inside the bits that they ask for.
func TestGetOfWhatIsCutOffWrittenOut(t *testing.T) {
	for _, c := range []struct {
		b  []byte
		at int
	}{
		{[]byte{0x01}, 7}, {[]byte{0x03}, 6}, {[]byte{0x07}, 5}, {[]byte{0x0f}, 4}, {[]byte{0x1f}, 3}, {[]byte{0xff}, 0},
		{[]byte{0x02}, 6}, {[]byte{0x06}, 5}, {[]byte{0x0e}, 4},
		{[]byte{0x80}, 0}, {[]byte{0xbf}, 0}, {[]byte{0xc0}, 0}, {[]byte{0x06, 0xff}, 5}, {[]byte{0xe7}, 0}, {[]byte{0x71, 0xff}, 1},
		{bytes.Repeat([]byte{255}, 8), 0}, {bytes.Repeat([]byte{255}, 9), 5}, {append([]byte{0xf0}, make([]byte, 7)...), 0},
	} {
		hold(t, c.b, c.at, 0, 0, api.ErrShort)
	}
}

// A number by more bits than its code has is no code, at every place inside a byte, and at the end.
func TestGetOfWhatHasAShorterCode(t *testing.T) {
	held := 0
	check := func(v int64, most int) {
		for _, code := range longer(v) {
			for ahead := range most {
				for _, before := range pads(ahead) {
					for _, behind := range []string{"", strings.Repeat("0", 70), strings.Repeat("1", 70)} {
						for _, fill := range []string{"0", "1"} {
							hold(t, made(whole(before+code+behind, fill)), ahead, 0, 0, api.ErrForm)
							held++
						}
					}
				}
			}
		}
	}
	for _, f := range named() {
		check(f.v, 17)
	}
	for v := int64(-2048); v <= 2047; v++ {
		check(v, 1)
	}
	if held < 100000 {
		t.Errorf("only %d", held)
	}
}

// The least and the greatest of what each longer shape must not tell, and their neighbours, that it must.
func TestGetAtTheEdgesOfShapes(t *testing.T) {
	for i, s := range shapes()[1:] {
		below := shapes()[i]
		for _, v := range []int64{below.least, below.most, 0, min(below.most, 1), max(below.least, -1)} {
			hold(t, made(whole(s.head+complement(v, s.body), "1")), 0, 0, 0, api.ErrForm)
		}
		for _, v := range []int64{below.least - 1, below.most + 1, s.least, s.most} {
			hold(t, made(whole(s.head+complement(v, s.body), "1")), 0, v, len(s.head)+s.body, nil)
		}
	}
}

// All bits that a code of up to 16 bits can have, and those that only look like one.
func TestGetOfEveryTwoBytes(t *testing.T) {
	for i := range 1 << 16 {
		holdTold(t, []byte{byte(i >> 8), byte(i)}, 0)
	}
	for i := range 1 << 10 {
		for at := -1; at <= 17; at++ {
			holdTold(t, []byte{byte(i >> 2), byte(i<<6 | i>>4)}, at)
		}
	}
}

func TestGetOfMixedBytes(t *testing.T) {
	for start := range uint64(300) {
		b := mixed(start, int(start%40))
		for at := -1; at <= 8*len(b)+1; at++ {
			holdTold(t, b, at)
		}
	}
}

// The error is the api's own value: one that is only like it, or wraps it, is another one.
func TestErrorsAreTheCodesThemselves(t *testing.T) {
	for _, c := range []struct {
		b    []byte
		at   int
		want api.Code
	}{
		{nil, 0, api.ErrShort},
		{[]byte{0}, -1, api.ErrShort},
		{[]byte{0}, 8, api.ErrShort},
		{[]byte{0}, 9, api.ErrShort},
		{[]byte{255}, 7, api.ErrShort},
		{[]byte{0x80}, 0, api.ErrShort},
		{[]byte{255}, 0, api.ErrShort},
		{[]byte{0x80, 0}, 0, api.ErrForm},
		{[]byte{0xc0, 0}, 0, api.ErrForm},
		{[]byte{0xe0, 0}, 0, api.ErrForm},
		{[]byte{0xf0, 0, 0, 0, 0, 0, 0, 0, 0}, 0, api.ErrForm},
		{bytes.Repeat([]byte{255}, 9), 0, api.ErrForm},
	} {
		_, _, err := dod.Get(c.b, c.at)
		if code, ok := err.(api.Code); !ok || code != c.want {
			t.Errorf("%v, %d: %#v", c.b, c.at, err)
		}
	}
}

// overwrite turns every bit of a slice's memory, that behind its end, too.
func overwrite(b []byte) {
	b = b[:cap(b)]
	for i := range b {
		b[i] = ^b[i]
	}
}

func TestCodeIsNewMemory(t *testing.T) {
	for _, f := range named() {
		first, second := dod.Code(f.v), dod.Code(f.v)
		overwrite(first.B)
		if got := text(t, second); got != f.text() {
			t.Errorf("%d: two answers share memory: %s", f.v, got)
		}
		if got := text(t, dod.Code(f.v)); got != f.text() {
			t.Errorf("%d: behind a change of what was told: %s", f.v, got)
		}
	}
}

// What was told stays as it was, whatever is asked behind it.
func TestWhatWasToldStays(t *testing.T) {
	var all []bits.Bits
	for _, f := range named() {
		all = append(all, dod.Code(f.v))
	}
	for i, f := range named() {
		if got := text(t, all[i]); got != f.text() {
			t.Fatalf("%d: %s, want %s", f.v, got, f.text())
		}
		overwrite(all[i].B)
	}
}

func TestGetChangesNothing(t *testing.T) {
	lists := [][]byte{nil, {0}, {255}, {0x80, 0}, bytes.Repeat([]byte{255}, 9), mixed(3, 40)}
	for _, f := range named() {
		lists = append(lists, made(f.text()))
	}
	for _, b := range lists {
		for _, room := range []byte{0, 1, 0x5a, 255} {
			memory := append(bytes.Clone(b), bytes.Repeat([]byte{room}, 16)...)
			before := bytes.Clone(memory)
			for at := -1; at <= 8*len(b)+1; at++ {
				dod.Get(memory[:len(b)], at)
				// Held against it behind each call: two changes may undo each other.
				if !bytes.Equal(memory, before) {
					t.Fatalf("Get(%v, %d): %v, was %v", b, at, memory, before)
				}
			}
		}
	}
}

// Get hangs on what it is given alone, not on what an earlier call saw.
func TestGetKeepsNothing(t *testing.T) {
	b := []byte{0x80, 0x80}
	hold(t, b, 0, 1, 9, nil)
	b[1] = 0
	hold(t, b, 0, 0, 0, api.ErrForm)
	b[0] = 0xff
	hold(t, b, 0, 0, 0, api.ErrShort)
	b[0] = 0xe7
	b[1] = 0xff
	hold(t, b, 0, 2047, 16, nil)
	b[0] = 0
	hold(t, b, 0, 0, 1, nil)
}

func TestWhatWasPutIsGot(t *testing.T) {
	for _, v := range numbers() {
		x := dod.Code(v)
		for ahead := range 9 {
			for _, before := range pads(ahead) {
				for _, fill := range []uint64{0, math.MaxUint64} {
					y := bits.Join(bits.Bits{B: made(before), N: ahead}, x)
					y = bits.Put(y, fill, 15)
					hold(t, y.B, ahead, v, x.N, nil)
				}
			}
		}
	}
}

func TestWhatIsGotHasThoseBitsAsItsCode(t *testing.T) {
	got := 0
	check := func(b []byte, at int) {
		t.Helper()
		v, n, err := dod.Get(b, at)
		if err != nil {
			return
		}
		got++
		all := bytesText(b)
		if n < 1 || n > len(all)-at || text(t, dod.Code(v)) != all[at:at+n] {
			t.Fatalf("%s from %d: %d, %d", all, at, v, n)
		}
	}
	for i := range 1 << 16 {
		check([]byte{byte(i >> 8), byte(i)}, 0)
	}
	for start := range uint64(300) {
		b := mixed(start, 60)
		for at := range 8 * len(b) {
			check(b, at)
		}
	}
	for start := range uint64(2000) {
		b := mixed(start, 12)
		b[0] |= 0xf
		check(b, 4)
	}
	if got < 100000 {
		t.Errorf("only %d numbers were got", got)
	}
}
