package fill_test

import (
	"bytes"
	"math"
	"strings"
	"testing"

	"gaiter/bits"
	"gaiter/fill"
)

// The tests hold the calls against texts of 0s and 1s, which no shifting can get wrong.

func bytesText(b []byte) string {
	var s strings.Builder
	for _, c := range b {
		for weight := 128; weight > 0; weight /= 2 {
			if int(c)&weight != 0 {
				s.WriteByte('1')
			} else {
				s.WriteByte('0')
			}
		}
	}
	return s.String()
}

// number tells the number of which s are the bits.
func number(s string) uint64 {
	var v uint64
	for _, c := range s {
		v = 2*v + uint64(c-'0')
	}
	return v
}

// mixed tells bytes among which no two places look alike for long, the last one odd.
func mixed(size int) []byte {
	b := make([]byte, size)
	v := uint64(1)
	for i := range b {
		v = v*6364136223846793005 + 1442695040888963407
		b[i] = byte(v >> 56)
	}
	if size > 0 {
		b[size-1] |= 1
	}
	return b
}

// samples tells bytes of sizes around those that are loaded at once, mixed ones and all 1s.
func samples() [][]byte {
	list := [][]byte{nil, {}}
	for size := 1; size <= 19; size++ {
		list = append(list, mixed(size), bytes.Repeat([]byte{255}, size))
	}
	return list
}

// extremes tells numbers of bits that no call takes.
func extremes() []int {
	return []int{-1, -7, -8, -56, -64, math.MinInt, math.MinInt + 1, math.MinInt + 63}
}

// huge tells numbers of bits that no reader has ahead of it.
func huge() []int {
	return []int{1 << 31, 1 << 32, 1 << 60, math.MaxInt - 64, math.MaxInt - 1, math.MaxInt}
}

// standing tells a reader of b that stands ahead of the at-th bit.
func standing(t *testing.T, b []byte, at int) *fill.Reader {
	t.Helper()
	r := fill.New(b)
	if !r.Skip(at) {
		t.Fatalf("%d bytes: no Skip of %d", len(b), at)
	}
	return r
}

// peeked tells what Peek has to tell of the bits ahead.
func peeked(ahead string, n int) uint64 {
	if n < 0 || n > 56 {
		return 0
	}
	return number((ahead + strings.Repeat("0", 56))[:n])
}

// holdAhead fails the test, if a reader has other bits ahead of it; it leaves r behind them.
func holdAhead(t *testing.T, r *fill.Reader, ahead string) {
	t.Helper()
	if got := r.Left(); got != len(ahead) {
		t.Fatalf("%d bits left, want %d", got, len(ahead))
	}
	if got, want := r.Peek(56), peeked(ahead, 56); got != want {
		t.Fatalf("%x ahead, want %x", got, want)
	}
	for len(ahead) > 0 {
		n := min(61, len(ahead))
		if got, ok := r.Read(n); got != number(ahead[:n]) || !ok {
			t.Fatalf("the next %d: %x, %v; want %x", n, got, ok, number(ahead[:n]))
		}
		ahead = ahead[n:]
	}
	if got := r.Left(); got != 0 {
		t.Fatalf("%d bits left behind the last one", got)
	}
}

func TestNewIsAheadOfTheFirstBit(t *testing.T) {
	for _, b := range samples() {
		r := fill.New(b)
		if got := r.Left(); got != 8*len(b) {
			t.Fatalf("%d bytes: %d", len(b), got)
		}
		holdAhead(t, r, bytesText(b))
	}
}

func TestOfNoBytes(t *testing.T) {
	for _, none := range [][]byte{nil, {}, bytes.Repeat([]byte{255}, 16)[:0]} {
		r := fill.New(none)
		for range 2 {
			if r.Left() != 0 || r.Peek(0) != 0 || r.Peek(1) != 0 || r.Peek(56) != 0 || r.Peek(57) != 0 {
				t.Error("left, or ahead")
			}
			if !r.Skip(0) || r.Skip(1) || r.Skip(-1) {
				t.Error("skip")
			}
			if v, ok := r.Read(0); v != 0 || !ok {
				t.Error("read of 0", v, ok)
			}
			if v, ok := r.Read(1); v != 0 || ok {
				t.Error("read of 1", v, ok)
			}
		}
	}
}

func TestTellsNumbers(t *testing.T) {
	if got := fill.New([]byte{128}).Peek(9); got != 256 {
		t.Errorf("of 128, Peek(9): %d", got)
	}
	r := fill.New([]byte{0xa5, 0x0f, 0x81})
	if got := r.Peek(3); got != 5 {
		t.Errorf("Peek(3): %d", got)
	}
	if v, ok := r.Read(4); v != 0xa || !ok {
		t.Errorf("Read(4): %x, %v", v, ok)
	}
	if got := r.Peek(12); got != 0x50f {
		t.Errorf("Peek(12): %x", got)
	}
	if !r.Skip(8) || r.Left() != 12 {
		t.Errorf("Skip(8): %d left", r.Left())
	}
	if got := r.Peek(24); got != 0xf81000 {
		t.Errorf("Peek(24): %x", got)
	}
	if v, ok := r.Read(12); v != 0xf81 || !ok || r.Left() != 0 {
		t.Errorf("Read(12): %x, %v, %d left", v, ok, r.Left())
	}
}

func TestPeekAtEveryPlace(t *testing.T) {
	for _, b := range samples() {
		all := bytesText(b)
		for at := range len(all) + 1 {
			r := standing(t, b, at)
			for n := -2; n <= 130; n++ {
				if got, want := r.Peek(n), peeked(all[at:], n); got != want {
					t.Fatalf("%d bytes, from %d, %d: %x, want %x", len(b), at, n, got, want)
				}
			}
			for _, n := range append(extremes(), huge()...) {
				if got := r.Peek(n); got != 0 {
					t.Fatalf("%d bytes, from %d, %d: %x", len(b), at, n, got)
				}
			}
		}
	}
}

func TestPeekMovesNothing(t *testing.T) {
	numbers := append(append(extremes(), huge()...), 0, 1, 7, 8, 9, 55, 56, 57, 64, 65)
	for _, b := range samples() {
		all := bytesText(b)
		for at := range len(all) + 1 {
			for _, n := range numbers {
				r := standing(t, b, at)
				first := r.Peek(n)
				if again := r.Peek(n); again != first {
					t.Fatalf("%d bytes, from %d, %d: %x, then %x", len(b), at, n, first, again)
				}
				holdAhead(t, r, all[at:])
			}
		}
	}
}

func TestSkipFromEveryPlace(t *testing.T) {
	for _, b := range samples() {
		all := bytesText(b)
		for at := range len(all) + 1 {
			for n := range len(all) - at + 1 {
				r := standing(t, b, at)
				if !r.Skip(n) {
					t.Fatalf("%d bytes, from %d, %d", len(b), at, n)
				}
				holdAhead(t, r, all[at+n:])
			}
		}
	}
}

func TestSkipOfManyAtOnce(t *testing.T) {
	b := mixed(1000)
	all := bytesText(b)
	for _, at := range []int{0, 1, 7, 8, 63, 64, 65, 4001} {
		for _, n := range []int{57, 64, 65, 71, 72, 100, 128, 129, 1023, 3999} {
			r := standing(t, b, at)
			r.Peek(56)
			if !r.Skip(n) {
				t.Fatalf("from %d, %d", at, n)
			}
			holdAhead(t, r, all[at+n:])
		}
	}
	r := fill.New(b)
	if !r.Skip(8000) || r.Left() != 0 || r.Peek(56) != 0 || r.Skip(1) || !r.Skip(0) {
		t.Error("all of them")
	}
}

func TestSkipOfBitsThatAreNotThere(t *testing.T) {
	for _, b := range samples() {
		all := bytesText(b)
		for at := range len(all) + 1 {
			left := len(all) - at
			for _, n := range append(append(extremes(), huge()...), left+1, left+2, left+8, left+64, len(all)+1) {
				r := standing(t, b, at)
				if r.Skip(n) {
					t.Fatalf("%d bytes, from %d, %d", len(b), at, n)
				}
				holdAhead(t, r, all[at:])
			}
		}
	}
}

func TestReadAtEveryPlace(t *testing.T) {
	for _, b := range samples() {
		all := bytesText(b)
		for at := range len(all) + 1 {
			for n := range min(64, len(all)-at) + 1 {
				r := standing(t, b, at)
				if got, ok := r.Read(n); got != number(all[at:at+n]) || !ok {
					t.Fatalf("%d bytes, from %d, %d: %x, %v", len(b), at, n, got, ok)
				}
				holdAhead(t, r, all[at+n:])
			}
		}
	}
}

func TestReadAcrossNineBytes(t *testing.T) {
	b := []byte{0x01, 0x23, 0x45, 0x67, 0x89, 0xab, 0xcd, 0xef, 0x12}
	r := standing(t, b, 4)
	if v, ok := r.Read(64); v != 0x123456789abcdef1 || !ok || r.Left() != 4 || r.Peek(4) != 2 {
		t.Errorf("%x, %v, %d left", v, ok, r.Left())
	}
	r = standing(t, b, 7)
	if v, ok := r.Read(58); v != 0x246_8acf_1357_9bde || !ok || r.Left() != 7 || r.Peek(7) != 0x12 {
		t.Errorf("%x, %v, %d left", v, ok, r.Left())
	}
	ones := bytes.Repeat([]byte{255}, 9)
	for at := range 8 {
		for n := 57; n <= 64; n++ {
			r := standing(t, ones, at)
			if v, ok := r.Read(n); v != math.MaxUint64>>(64-n) || !ok || r.Left() != 72-at-n {
				t.Errorf("from %d, %d: %x, %v, %d left", at, n, v, ok, r.Left())
			}
		}
	}
}

func TestReadOfBitsThatAreNotThere(t *testing.T) {
	for _, b := range samples() {
		all := bytesText(b)
		for at := range len(all) + 1 {
			left := len(all) - at
			for _, n := range append(append(extremes(), huge()...), left+1, left+2, left+8, left+64, 65, 66, 72, 128) {
				r := standing(t, b, at)
				if got, ok := r.Read(n); got != 0 || ok {
					t.Fatalf("%d bytes, from %d, %d: %x, %v", len(b), at, n, got, ok)
				}
				holdAhead(t, r, all[at:])
			}
		}
	}
}

// Many refused calls, one behind the other, leave no trace either.
func TestWhatIsRefusedLeavesNoTrace(t *testing.T) {
	b := mixed(30)
	all := bytesText(b)
	for at := range len(all) + 1 {
		r := standing(t, b, at)
		left := len(all) - at
		for _, n := range append(append(extremes(), huge()...), left+1, max(left+1, 65)) {
			r.Skip(n)
			r.Read(n)
			r.Peek(n)
			r.Read(65)
			r.Peek(57)
		}
		holdAhead(t, r, all[at:])
	}
}

// The room behind a slice's end isn't handed in: its bits aren't there.
func TestStaysWithinTheSlice(t *testing.T) {
	memory := bytes.Repeat([]byte{255}, 40)
	for size := range 20 {
		b := memory[:size]
		all := bytesText(b)
		for at := range 8*size + 1 {
			r := standing(t, b, at)
			if got, want := r.Peek(56), peeked(all[at:], 56); got != want {
				t.Fatalf("%d bytes, from %d: %x, want %x", size, at, got, want)
			}
			if r.Skip(r.Left() + 1) {
				t.Fatalf("%d bytes, from %d: a skip behind the end", size, at)
			}
			if v, ok := r.Read(r.Left() + 1); v != 0 || ok {
				t.Fatalf("%d bytes, from %d: %x, %v", size, at, v, ok)
			}
		}
	}
}

func TestChangesNothing(t *testing.T) {
	for _, size := range []int{0, 1, 7, 8, 9, 16, 17} {
		memory := bytes.Repeat([]byte{0x5a}, size+32)
		copy(memory, mixed(size))
		before := bytes.Clone(memory)
		// Held against it behind each call: two changes may undo each other.
		same := func(call string, at, n int) {
			t.Helper()
			if !bytes.Equal(memory, before) {
				t.Fatalf("%d bytes, from %d, %s of %d: %x, was %x", size, at, call, n, memory, before)
			}
		}
		for at := range 8*size + 1 {
			for n := -1; n <= 66; n++ {
				r := fill.New(memory[:size])
				same("New", at, n)
				r.Skip(at)
				same("Skip", at, at)
				r.Left()
				same("Left", at, n)
				r.Peek(n)
				same("Peek", at, n)
				r.Read(n)
				same("Read", at, n)
				r.Skip(n)
				same("Skip", at, n)
			}
		}
	}
}

// Readers of the same bytes go on each for itself.
func TestReadersAreApart(t *testing.T) {
	b := mixed(40)
	all := bytesText(b)
	one, two := fill.New(b), fill.New(b)
	one.Skip(13)
	one.Read(64)
	three := fill.New(b)
	two.Read(3)
	holdAhead(t, one, all[77:])
	holdAhead(t, two, all[3:])
	holdAhead(t, three, all)
}

// pieces tells sizes of pieces, 0 to 64 and some beyond, that hang on a start alone.
func pieces(start uint64, most int) func() int {
	v := start
	return func() int {
		v = v*6364136223846793005 + 1442695040888963407
		return int(v>>33) % (most + 1)
	}
}

// holdReads reads b in pieces, up to the end and some calls further, and holds each call against Take.
func holdReads(t *testing.T, b []byte, piece func() int) {
	t.Helper()
	r := fill.New(b)
	at, refused := 0, 0
	for at < 8*len(b) || refused < 8 {
		n := piece()
		want, is := bits.Take(b, at, n)
		if n <= 56 && is && r.Peek(n) != want {
			t.Fatalf("%d bytes, from %d: the %d bits ahead aren't %x", len(b), at, n, want)
		}
		if got, ok := r.Read(n); got != want || ok != is {
			t.Fatalf("%d bytes, from %d, %d: %x, %v; want %x, %v", len(b), at, n, got, ok, want, is)
		}
		if is {
			at += n
		} else {
			refused++
		}
		if r.Left() != 8*len(b)-at {
			t.Fatalf("%d bytes, at %d: %d left", len(b), at, r.Left())
		}
	}
}

func TestReadsWhatTakeTells(t *testing.T) {
	for size := range 70 {
		for start := range uint64(30) {
			holdReads(t, mixed(size), pieces(start, []int{3, 9, 56, 64, 66}[start%5]))
		}
	}
}

// Each size of 0 to 64, again and again, from each bit of a byte on.
func TestReadsWhatTakeTellsInLikePieces(t *testing.T) {
	b := mixed(90)
	for n := range 65 {
		for at := range 8 {
			r := standing(t, b, at)
			for range 12 + 8*len(b)/max(n, 8) {
				want, is := bits.Take(b, at, n)
				if got, ok := r.Read(n); got != want || ok != is {
					t.Fatalf("from %d, %d: %x, %v; want %x, %v", at, n, got, ok, want, is)
				}
				if is {
					at += n
				}
			}
			if n >= 8 && r.Left() >= n {
				t.Fatalf("pieces of %d: the end isn't reached", n)
			}
		}
	}
}

// Among reads, skips of any number of bits, also of more than 64.
func TestSkipsAndReadsWhatTakeTells(t *testing.T) {
	b := mixed(500)
	for start := range uint64(40) {
		skip, read := pieces(start, 150), pieces(start+1000, 64)
		r := fill.New(b)
		at := 0
		for range 60 {
			n := skip()
			if ok := r.Skip(n); ok != (n <= 8*len(b)-at) {
				t.Fatalf("at %d, Skip(%d): %v", at, n, ok)
			} else if ok {
				at += n
			}
			n = read()
			want, is := bits.Take(b, at, n)
			if got, ok := r.Read(n); got != want || ok != is {
				t.Fatalf("from %d, %d: %x, %v; want %x, %v", at, n, got, ok, want, is)
			}
			if is {
				at += n
			}
		}
	}
}
