package tab_test

import (
	"bytes"
	"math"
	"math/big"
	"strings"
	"testing"

	"gaiter/api"
	"gaiter/dod"
	"gaiter/fill"
	"gaiter/tab"
)

// The tests hold the calls against texts of 0s and 1s, and numbers that know no end: no shifting can get these wrong.

// form is a number, and its code written out.
type form struct {
	v    int64
	code string
}

// named tells the numbers that the issue names: those at both ends of each room, their neighbours, and some between.
func named() []form {
	zeros, ones := strings.Repeat("0", 51), strings.Repeat("1", 51)
	return []form{
		{0, "0"},
		{1, "10 0000001"},
		{-1, "10 1111111"},
		{2, "10 0000010"},
		{-2, "10 1111110"},
		{62, "10 0111110"},
		{63, "10 0111111"},
		{-63, "10 1000001"},
		{-64, "10 1000000"},
		{64, "110 001000000"},
		{65, "110 001000001"},
		{-65, "110 110111111"},
		{-66, "110 110111110"},
		{254, "110 011111110"},
		{255, "110 011111111"},
		{-255, "110 100000001"},
		{-256, "110 100000000"},
		{256, "1110 000100000000"},
		{257, "1110 000100000001"},
		{-257, "1110 111011111111"},
		{-258, "1110 111011111110"},
		{2046, "1110 011111111110"},
		{2047, "1110 011111111111"},
		{-2047, "1110 100000000001"},
		{-2048, "1110 100000000000"},
		{2048, "1111 0" + zeros + "100000000000"},
		{2049, "1111 0" + zeros + "100000000001"},
		{-2049, "1111 1" + ones + "011111111111"},
		{-2050, "1111 1" + ones + "011111111110"},
		{math.MaxInt64, "1111 0" + ones + "111111111111"},
		{math.MaxInt64 - 1, "1111 0" + ones + "111111111110"},
		{math.MinInt64, "1111 1" + zeros + "000000000000"},
		{math.MinInt64 + 1, "1111 1" + zeros + "000000000001"},
	}
}

func (f form) text() string { return strings.ReplaceAll(f.code, " ", "") }

// shape is how a code looks: what begins it, and how many bits are behind that.
type shape struct {
	head        string
	body        int
	least, most int64 // what these bits have room for
}

func shapes() []shape {
	return []shape{
		{"0", 0, 0, 0},
		{"10", 7, -64, 63},
		{"110", 9, -256, 255},
		{"1110", 12, -2048, 2047},
		{"1111", 64, math.MinInt64, math.MaxInt64},
	}
}

// complement tells the n bits of a number of two's complement.
func complement(v int64, n int) string {
	if n == 0 {
		return ""
	}
	number := big.NewInt(v)
	if number.Sign() < 0 {
		number.Add(number, new(big.Int).Exp(big.NewInt(2), big.NewInt(int64(n)), nil))
	}
	s := number.Text(2)
	return strings.Repeat("0", n-len(s)) + s
}

// number tells the number of which s are the bits of two's complement.
func number(s string) int64 {
	sum, ok := new(big.Int).SetString("0"+s, 2)
	if !ok {
		panic(s)
	}
	if strings.HasPrefix(s, "1") {
		sum.Sub(sum, new(big.Int).Exp(big.NewInt(2), big.NewInt(int64(len(s))), nil))
	}
	return sum.Int64()
}

// codeOf tells a number's code by layer 5's words.
func codeOf(v int64) string {
	for _, s := range shapes() {
		if v >= s.least && v <= s.most {
			return s.head + complement(v, s.body)
		}
	}
	panic("no shape")
}

// longer tells the bits that look like a code of a number that has a shorter one.
func longer(v int64) []string {
	var list []string
	for _, s := range shapes() {
		if v < s.least || v > s.most {
			continue
		}
		if code := s.head + complement(v, s.body); code != codeOf(v) {
			list = append(list, code)
		}
	}
	return list
}

// told tells what Get must answer of these bits ahead, and how many are behind the reader then.
func told(ahead string) (int64, int, error) {
	for _, s := range shapes() {
		rest, is := strings.CutPrefix(ahead, s.head)
		if !is {
			continue
		}
		if len(rest) < s.body {
			return 0, 0, api.ErrShort
		}
		v := number(rest[:s.body])
		if codeOf(v) != s.head+rest[:s.body] {
			return 0, 0, api.ErrForm
		}
		return v, len(s.head) + s.body, nil
	}
	return 0, 0, api.ErrShort
}

func bytesText(b []byte) string {
	var s strings.Builder
	for _, c := range b {
		for weight := 128; weight > 0; weight /= 2 {
			if int(c)&weight != 0 {
				s.WriteByte('1')
			} else {
				s.WriteByte('0')
			}
		}
	}
	return s.String()
}

// made tells the bytes of a text, those of its last byte behind its end being 0.
func made(s string) []byte {
	b := make([]byte, (len(s)+7)/8)
	for i, c := range s {
		if c == '1' {
			b[i/8] += byte(128 >> (i % 8))
		}
	}
	return b
}

// whole fills a text up to a whole byte, since bytes end nowhere else: with 0s, or with 1s.
func whole(s, fill string) string {
	return s + strings.Repeat(fill, (8-len(s)%8)%8)
}

// mixed tells bytes that hang on a start alone.
func mixed(start uint64, size int) []byte {
	b := make([]byte, size)
	v := start
	for i := range b {
		v = v*6364136223846793005 + 1442695040888963407
		b[i] = byte(v >> 56)
	}
	return b
}

// pads tells n bits of several kinds, to stand ahead of a code, or behind it.
func pads(n int) []string {
	some := bytesText(mixed(uint64(n)+7, n/8+1))
	return []string{strings.Repeat("0", n), strings.Repeat("1", n), some[:n]}
}

// numbers tells the named ones, all near 0, those around each power of two and its opposite, and mixed ones of every length.
func numbers() []int64 {
	var list []int64
	for _, f := range named() {
		list = append(list, f.v)
	}
	for v := int64(-2100); v <= 2100; v++ {
		list = append(list, v)
	}
	w := uint64(1)
	for n := range 64 {
		for off := range uint64(5) {
			list = append(list, int64(1<<n+off-2), int64(-(1<<n)+off-2))
		}
		for range 20 {
			w = w*6364136223846793005 + 1442695040888963407
			list = append(list, int64(w>>n), -int64(w>>n))
		}
	}
	return list
}

// skipped tells a reader of b that has at bits behind it, by one Skip.
func skipped(t *testing.T, b []byte, at int) *fill.Reader {
	t.Helper()
	r := fill.New(b)
	if !r.Skip(at) {
		t.Fatalf("%d bytes: no Skip of %d", len(b), at)
	}
	return r
}

// read tells a reader of b that has at bits behind it, by Reads.
func read(t *testing.T, b []byte, at int) *fill.Reader {
	t.Helper()
	r := fill.New(b)
	for behind := 0; behind < at; {
		n := min(at-behind, 5)
		if _, ok := r.Read(n); !ok {
			t.Fatalf("%d bytes: no Read of %d from %d", len(b), n, behind)
		}
		behind += n
	}
	return r
}

// hold fails the test, if Get answers otherwise than it must, or, without an error, leaves another number of bits.
func hold(t *testing.T, r *fill.Reader, v int64, left int, want error) {
	t.Helper()
	before := r.Left()
	got, err := tab.Get(r)
	if got != v || err != want || err == nil && r.Left() != left {
		t.Fatalf("Get with %d bits ahead: %d, %v, %d left; want %d, %v, %d left", before, got, err, r.Left(), v, want, left)
	}
}

// holdTold holds Get against told, from the at-th bit on.
func holdTold(t *testing.T, b []byte, at int) {
	t.Helper()
	ahead := bytesText(b)[at:]
	v, n, err := told(ahead)
	hold(t, skipped(t, b, at), v, len(ahead)-n, err)
}

// rowTold tells a row by the words: i is written out as 8 bits, and one shape's beginning is theirs.
func rowTold(i int) tab.Row {
	for _, s := range shapes() {
		if strings.HasPrefix(bytesText([]byte{byte(i)}), s.head) {
			return tab.Row{Head: len(s.head), Body: s.body}
		}
	}
	panic("no shape")
}

// holdTable fails the test, if a list isn't the table.
func holdTable(t *testing.T, list []tab.Row) {
	t.Helper()
	if len(list) != 256 {
		t.Fatalf("%d rows", len(list))
	}
	for i, row := range list {
		if row != rowTold(i) {
			t.Fatalf("row %d: %v, want %v", i, row, rowTold(i))
		}
	}
}

func TestTable(t *testing.T) {
	holdTable(t, tab.Table())
}

// The first row and the last one of each number of 1s, written out.
func TestTableWrittenOut(t *testing.T) {
	list := tab.Table()
	if len(list) != 256 {
		t.Fatalf("%d rows", len(list))
	}
	for i, want := range map[int]tab.Row{
		0: {1, 0}, 1: {1, 0}, 127: {1, 0},
		128: {2, 7}, 191: {2, 7},
		192: {3, 9}, 223: {3, 9},
		224: {4, 12}, 239: {4, 12},
		240: {4, 64}, 248: {4, 64}, 254: {4, 64}, 255: {4, 64},
	} {
		if list[i] != want {
			t.Errorf("row %d: %v, want %v", i, list[i], want)
		}
	}
}

// Get goes over as many bits as the table tells of the 8 that are next.
func TestGetGoesByTheTable(t *testing.T) {
	for i, row := range tab.Table() {
		for _, behind := range pads(80) {
			b := append([]byte{byte(i)}, made(behind)...)
			r := fill.New(b)
			if _, err := tab.Get(r); err == nil && r.Left() != 8*len(b)-row.Head-row.Body {
				t.Fatalf("%d and %s: %d left, by %v", i, behind, r.Left(), row)
			}
		}
	}
}

func TestGetAtTheBeginning(t *testing.T) {
	for _, f := range named() {
		for _, behind := range append(pads(0), pads(70)...) {
			for _, fills := range []string{"0", "1"} {
				b := made(whole(f.text()+behind, fills))
				hold(t, fill.New(b), f.v, 8*len(b)-len(f.text()), nil)
			}
		}
	}
}

// Of many numbers, at both sides of each end of a room, too.
func TestGetOfNumbers(t *testing.T) {
	for _, v := range numbers() {
		code := codeOf(v)
		for ahead := range 8 {
			b := made(whole(strings.Repeat("0", ahead)+code, "1"))
			hold(t, skipped(t, b, ahead), v, 8*len(b)-ahead-len(code), nil)
		}
	}
}

// Behind any number of bits, by Skip or by Reads, at every place inside a byte; 64 bits lie across nine bytes at most of them.
func TestGetBehindOtherBits(t *testing.T) {
	for _, f := range named() {
		for ahead := range 25 {
			for _, before := range pads(ahead) {
				for _, behind := range append(pads(7), pads(80)...) {
					b := made(whole(before+f.text()+behind, "1"))
					left := 8*len(b) - ahead - len(f.text())
					hold(t, skipped(t, b, ahead), f.v, left, nil)
					hold(t, read(t, b, ahead), f.v, left, nil)
				}
			}
		}
	}
}

// Behind codes that Get itself went over: a code of 0 for each bit ahead, or others up to any place inside a byte.
func TestGetBehindGet(t *testing.T) {
	for _, f := range named() {
		for _, first := range named() {
			for ahead := range 9 {
				list := append(make([]int64, ahead), first.v, f.v)
				all := strings.Repeat("0", ahead) + first.text() + f.text()
				b := made(whole(all, "1"))
				r, left := fill.New(b), 8*len(b)
				for _, v := range list {
					left -= len(codeOf(v))
					hold(t, r, v, left, nil)
				}
			}
		}
	}
}

// 64 bits that lie across nine bytes, written out.
func TestGetAcrossNineBytes(t *testing.T) {
	hold(t, skipped(t, []byte{0x3c, 0x48, 0xd1, 0x59, 0xe2, 0x6a, 0xf3, 0x7b, 0xc5, 0xff}, 2), 0x123456789abcdef1, 10, nil)
	hold(t, fill.New([]byte{0xf1, 0x23, 0x45, 0x67, 0x89, 0xab, 0xcd, 0xef, 0x10}), 0x123456789abcdef1, 4, nil)
	hold(t, fill.New([]byte{0xf8, 0, 0, 0, 0, 0, 0, 0, 0}), math.MinInt64, 4, nil)
	hold(t, skipped(t, []byte{0x01, 0xef, 255, 255, 255, 255, 255, 255, 255, 255}, 7), math.MaxInt64, 5, nil)
	hold(t, skipped(t, []byte{0x0f, 0x80, 0, 0, 0, 0, 0, 0, 1}, 4), math.MinInt64+1, 0, nil)
}

// A code may end just where the bytes do.
func TestGetOfTheLastBits(t *testing.T) {
	for _, f := range named() {
		for more := range 4 {
			ahead := (8-len(f.text())%8)%8 + 8*more
			for _, before := range pads(ahead) {
				b := made(before + f.text())
				hold(t, skipped(t, b, ahead), f.v, 0, nil)
				hold(t, read(t, b, ahead), f.v, 0, nil)
			}
		}
	}
}

// Of the last bits of all, where fewer than 8 are left, a 0 is got; behind it, nothing.
func TestGetWhereFewAreLeft(t *testing.T) {
	for i := range 256 {
		for size := range 12 {
			b := append(mixed(uint64(i), size), byte(i))
			for at := 8 * size; at < 8*len(b); at++ {
				holdTold(t, b, at)
			}
		}
	}
	r := skipped(t, []byte{0xff, 0xe0}, 11)
	for left := 4; left >= 0; left-- {
		hold(t, r, 0, left, nil)
	}
	hold(t, r, 0, 0, api.ErrShort)
}

func TestGetOneBehindTheOther(t *testing.T) {
	for ahead := range 8 {
		var all strings.Builder
		all.WriteString(strings.Repeat("1", ahead))
		for _, v := range numbers() {
			all.WriteString(codeOf(v))
		}
		b := made(whole(all.String(), "1"))
		r := skipped(t, b, ahead)
		left := 8*len(b) - ahead
		for _, v := range numbers() {
			left -= len(codeOf(v))
			hold(t, r, v, left, nil)
		}
		if left != 8*len(b)-all.Len() {
			t.Fatalf("%d bits left", left)
		}
		// What fills the last byte up is at most seven 1s: no code.
		hold(t, r, 0, 0, api.ErrShort)
	}
}

// Where no bit is left; again and again, since a call behind an error must end, too.
func TestGetWhereNothingIsLeft(t *testing.T) {
	for _, b := range [][]byte{nil, {}, {0}, {255}, {0x80}, bytes.Repeat([]byte{0}, 40), bytes.Repeat([]byte{255}, 40), mixed(5, 7), mixed(5, 8), mixed(5, 9)} {
		for _, r := range []*fill.Reader{skipped(t, b, 8*len(b)), read(t, b, 8*len(b))} {
			for range 4 {
				hold(t, r, 0, 0, api.ErrShort)
			}
		}
	}
}

// A code is cut off at each of its bits, whatever stands ahead of it; so are bits that are only like a code.
func TestGetOfWhatIsCutOff(t *testing.T) {
	var codes []string
	for _, f := range named() {
		codes = append(codes, f.text())
		codes = append(codes, longer(f.v)...)
	}
	for _, code := range codes {
		for cut := range len(code) {
			for more := range 3 {
				ahead := (8-cut%8)%8 + 8*more
				for _, before := range pads(ahead) {
					memory := made(whole(before+code, "1") + strings.Repeat("1", 80))
					hold(t, skipped(t, bytes.Clone(memory[:(ahead+cut)/8]), ahead), 0, 0, api.ErrShort)
					// The room behind a slice's end isn't handed in: its bits aren't there.
					hold(t, skipped(t, memory[:(ahead+cut)/8], ahead), 0, 0, api.ErrShort)
				}
			}
		}
	}
}

// The places that the issue names, written out: among the 1s, behind them, inside the bits that they ask for, and one bit ahead of the end.
func TestGetOfWhatIsCutOffWrittenOut(t *testing.T) {
	for _, c := range []struct {
		b  []byte
		at int
	}{
		{[]byte{0x01}, 7}, {[]byte{0x03}, 6}, {[]byte{0x07}, 5}, {[]byte{0x0f}, 4}, {[]byte{0x1f}, 3}, {[]byte{0xff}, 0},
		{[]byte{0x02}, 6}, {[]byte{0x06}, 5}, {[]byte{0x0e}, 4},
		{[]byte{0x80}, 0}, {[]byte{0xbf}, 0}, {[]byte{0xc0}, 0}, {[]byte{0xe7}, 0}, {bytes.Repeat([]byte{255}, 8), 0}, {append([]byte{0xf0}, make([]byte, 7)...), 0},
		{[]byte{0x06, 0x7f}, 5}, {[]byte{0x71, 0xff}, 1}, {bytes.Repeat([]byte{255}, 9), 5}, {append([]byte{0x07, 0x80}, make([]byte, 7)...), 5},
	} {
		hold(t, skipped(t, c.b, c.at), 0, 0, api.ErrShort)
	}
}

// A number by more bits than its code has is no code, at every place inside a byte, and at the end.
func TestGetOfWhatHasAShorterCode(t *testing.T) {
	held := 0
	check := func(v int64, most int) {
		for _, code := range longer(v) {
			for ahead := range most {
				for _, before := range pads(ahead) {
					for _, behind := range []string{"", strings.Repeat("0", 70), strings.Repeat("1", 70)} {
						for _, fills := range []string{"0", "1"} {
							hold(t, skipped(t, made(whole(before+code+behind, fills)), ahead), 0, 0, api.ErrForm)
							held++
						}
					}
				}
			}
			// Its last bit is the last bit of all.
			ahead := (8 - len(code)%8) % 8
			hold(t, skipped(t, made(strings.Repeat("1", ahead)+code), ahead), 0, 0, api.ErrForm)
		}
	}
	for _, f := range named() {
		check(f.v, 17)
	}
	for v := int64(-2048); v <= 2047; v++ {
		check(v, 1)
	}
	if held < 100000 {
		t.Errorf("only %d", held)
	}
}

// The least and the greatest of what each longer shape must not tell, and their neighbours, that it must.
func TestGetAtTheEdgesOfShapes(t *testing.T) {
	for i, s := range shapes()[1:] {
		below := shapes()[i]
		for _, v := range []int64{below.least, below.most, 0, min(below.most, 1), max(below.least, -1)} {
			hold(t, fill.New(made(whole(s.head+complement(v, s.body), "1"))), 0, 0, api.ErrForm)
		}
		for _, v := range []int64{below.least - 1, below.most + 1, s.least, s.most} {
			b := made(whole(s.head+complement(v, s.body), "1"))
			hold(t, fill.New(b), v, 8*len(b)-len(s.head)-s.body, nil)
		}
	}
}

// All bits that a code of up to 16 bits can have, and those that only look like one.
func TestGetOfEveryTwoBytes(t *testing.T) {
	for i := range 1 << 16 {
		holdTold(t, []byte{byte(i >> 8), byte(i)}, 0)
	}
	for i := range 1 << 10 {
		for at := range 17 {
			holdTold(t, []byte{byte(i >> 2), byte(i<<6 | i>>4)}, at)
		}
	}
}

// The error is the api's own value: one that is only like it, or wraps it, is another one.
func TestErrorsAreTheCodesThemselves(t *testing.T) {
	for _, c := range []struct {
		b    []byte
		want api.Code
	}{
		{nil, api.ErrShort},
		{[]byte{0x80}, api.ErrShort},
		{[]byte{255}, api.ErrShort},
		{[]byte{0x80, 0}, api.ErrForm},
		{[]byte{0xc0, 0}, api.ErrForm},
		{[]byte{0xe0, 0}, api.ErrForm},
		{[]byte{0xf0, 0, 0, 0, 0, 0, 0, 0, 0}, api.ErrForm},
		{bytes.Repeat([]byte{255}, 9), api.ErrForm},
	} {
		v, err := tab.Get(fill.New(c.b))
		if code, ok := err.(api.Code); v != 0 || !ok || code != c.want {
			t.Errorf("%v: %d, %#v", c.b, v, err)
		}
	}
}

// Where the reader stands behind an error isn't told; but calls go on to end, and it has no more bits ahead than it had.
func TestGetBehindAnError(t *testing.T) {
	for start := range uint64(200) {
		b := mixed(start, int(start%30))
		for at := range 8*len(b) + 1 {
			r := skipped(t, b, at)
			for range 40 {
				before := r.Left()
				if _, err := tab.Get(r); r.Left() > before || err == nil && r.Left() == before {
					t.Fatalf("%d bytes, from %d: %d left, were %d", len(b), at, r.Left(), before)
				}
			}
		}
	}
}

func TestTableIsNewMemory(t *testing.T) {
	first, second := tab.Table(), tab.Table()
	for i := range first[:cap(first)] {
		first[:cap(first)][i] = tab.Row{Head: 3, Body: 5}
	}
	holdTable(t, second)
	holdTable(t, tab.Table())
	for _, f := range named() {
		b := made(whole(f.text(), "1"))
		hold(t, fill.New(b), f.v, 8*len(b)-len(f.text()), nil)
	}
}

// A row changed in one list changes it there alone, whichever it is.
func TestEachRowIsNewMemory(t *testing.T) {
	kept := tab.Table()
	for i := range kept {
		list := tab.Table()
		list[i] = tab.Row{Head: -1, Body: -1}
		for j, row := range list {
			if j != i && row != rowTold(j) {
				t.Fatalf("row %d is behind row %d, too: %v", i, j, row)
			}
		}
		holdTable(t, kept)
		// Of those 8 bits, and of more behind them.
		holdTold(t, []byte{byte(i)}, 0)
		holdTold(t, append([]byte{byte(i)}, mixed(uint64(i), 10)...), 0)
	}
	holdTable(t, tab.Table())
}

func TestGetChangesNothing(t *testing.T) {
	lists := [][]byte{nil, {0}, {255}, {0x80, 0}, bytes.Repeat([]byte{255}, 9), mixed(3, 40)}
	for _, f := range named() {
		lists = append(lists, made(f.text()))
	}
	for _, b := range lists {
		for _, room := range []byte{0, 1, 0x5a, 255} {
			memory := append(bytes.Clone(b), bytes.Repeat([]byte{room}, 16)...)
			before := bytes.Clone(memory)
			for at := range 8*len(b) + 1 {
				r := skipped(t, memory[:len(b)], at)
				for range 3 {
					tab.Get(r)
					// Held against it behind each call: two changes may undo each other.
					if !bytes.Equal(memory, before) {
						t.Fatalf("%v from %d: %v, was %v", b, at, memory, before)
					}
				}
			}
		}
	}
}

// Readers go on each for itself, of the same bytes, too; nothing is kept from one call to another.
func TestReadersAreApart(t *testing.T) {
	var all strings.Builder
	for _, f := range named() {
		all.WriteString(f.text())
	}
	b := made(whole(all.String(), "1"))
	one, two, left := fill.New(b), fill.New(b), 8*len(b)
	for _, f := range named() {
		left -= len(f.text())
		hold(t, one, f.v, left, nil)
		hold(t, fill.New([]byte{0x80, 0}), 0, 0, api.ErrForm)
		hold(t, two, f.v, left, nil)
		hold(t, fill.New(nil), 0, 0, api.ErrShort)
	}
}

// holdLikeDod gets code by code, by both layers, up to the same error; it tells how many there were.
func holdLikeDod(t *testing.T, b []byte, at int) int {
	t.Helper()
	r := skipped(t, b, at)
	for got := 0; ; got++ {
		want, n, wantErr := dod.Get(b, at)
		v, err := tab.Get(r)
		if v != want || err != wantErr {
			t.Fatalf("%s from %d: %d, %v; want %d, %v", bytesText(b), at, v, err, want, wantErr)
		}
		if err != nil {
			return got
		}
		at += n
		if r.Left() != 8*len(b)-at {
			t.Fatalf("%s at %d: %d left", bytesText(b), at, r.Left())
		}
	}
}

// Codes that layer 5 tells, one behind the other, cut off anywhere.
func TestGetsWhatDodGetsOfCodes(t *testing.T) {
	for start := range uint64(60) {
		var all strings.Builder
		w := start
		for range 24 {
			w = w*6364136223846793005 + 1442695040888963407
			// Of every length, each as often as another.
			v := int64(w) >> (w % 64)
			x := dod.Code(v)
			all.WriteString(bytesText(x.B)[:x.N])
		}
		for _, fills := range []string{"0", "1"} {
			b := made(whole(all.String(), fills))
			for size := range len(b) + 1 {
				holdLikeDod(t, b[:size], 0)
			}
			if got := holdLikeDod(t, b, 0); got < 24 {
				t.Fatalf("only %d codes of 24", got)
			}
		}
	}
}

// The named codes, and all numbers, whole.
func TestGetsWhatDodGetsOfNumbers(t *testing.T) {
	for ahead := range 8 {
		var all strings.Builder
		all.WriteString(strings.Repeat("1", ahead))
		for _, v := range numbers() {
			x := dod.Code(v)
			all.WriteString(bytesText(x.B)[:x.N])
		}
		b := made(whole(all.String(), "1"))
		if got := holdLikeDod(t, b, ahead); got != len(numbers()) {
			t.Fatalf("%d codes of %d", got, len(numbers()))
		}
	}
}

func TestGetsWhatDodGetsOfAnyBytes(t *testing.T) {
	got := 0
	for start := range uint64(400) {
		b := mixed(start, int(start%40))
		for at := range 8*len(b) + 1 {
			got += holdLikeDod(t, b, at)
		}
	}
	for start := range uint64(2000) {
		b := mixed(start, 24)
		// 64 bits are asked for, and few 1s are ahead of other codes.
		b[0] |= 0xf
		b[12] &= 0x91
		got += holdLikeDod(t, b, int(start%5))
		holdLikeDod(t, b[:9], 4)
		holdLikeDod(t, b, 96)
	}
	for i := range 1 << 16 {
		got += holdLikeDod(t, []byte{byte(i >> 8), byte(i)}, 0)
	}
	if got < 100000 {
		t.Errorf("only %d numbers were got", got)
	}
}
