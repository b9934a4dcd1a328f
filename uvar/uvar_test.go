package uvar_test

import (
	"bytes"
	"math"
	"math/big"
	"slices"
	"testing"

	"gaiter/api"
	"gaiter/uvar"
)

// form is a number, and its bytes written out.
type form struct {
	v uint64
	b []byte
}

// ended tells n bytes: one of them again and again, and behind these the last one.
func ended(again byte, n int, last byte) []byte {
	return append(bytes.Repeat([]byte{again}, n-1), last)
}

// named tells the numbers that the document, or the issue, names.
func named() []form {
	return []form{
		{0, []byte{0}},
		{1, []byte{1}},
		{127, []byte{127}},
		{128, []byte{128, 1}},
		{129, []byte{129, 1}},
		{255, []byte{255, 1}},
		{256, []byte{128, 2}},
		{300, []byte{172, 2}},
		{1<<63 - 1, []byte{255, 255, 255, 255, 255, 255, 255, 255, 127}},
		{1 << 63, []byte{128, 128, 128, 128, 128, 128, 128, 128, 128, 1}},
		{1<<63 | 1, []byte{129, 128, 128, 128, 128, 128, 128, 128, 128, 1}},
		{math.MaxUint64, []byte{255, 255, 255, 255, 255, 255, 255, 255, 255, 1}},
		{0x0123456789abcdef, []byte{0xef, 0x9b, 0xaf, 0xcd, 0xf8, 0xac, 0xd1, 0x91, 0x01}},
		{0xfedcba9876543210, []byte{0x90, 0xe4, 0xd0, 0xb2, 0x87, 0xd3, 0xae, 0xee, 0xfe, 0x01}},
	}
}

// edges tells the least and the greatest number of each count of bytes.
func edges() []form {
	list := []form{{0, []byte{0}}, {127, []byte{127}}}
	least := uint64(1)
	for n := 2; n <= 9; n++ {
		least *= 128
		list = append(list, form{least, ended(128, n, 1)}, form{128*least - 1, ended(255, n, 127)})
	}
	return append(list, form{128 * least, ended(128, 10, 1)}, form{math.MaxUint64, ended(255, 10, 1)})
}

func forms() []form { return append(named(), edges()...) }

// numbers tells numbers of every length, among them those around each power of 2.
func numbers() []uint64 {
	var list []uint64
	for _, f := range forms() {
		list = append(list, f.v)
	}
	v := uint64(1)
	for n := range 64 {
		list = append(list, 1<<n, 1<<n-1, 1<<n+1, math.MaxUint64-1<<n)
		for range 20 {
			v = v*6364136223846793005 + 1442695040888963407
			list = append(list, v>>n)
		}
	}
	return list
}

// told tells what Get must answer, by the words of P3.1: with numbers that know no end, and without a shift.
func told(b []byte, at int) (uint64, int, error) {
	if at < 0 {
		return 0, 0, api.ErrShort
	}
	rest := b[min(at, len(b)):]
	ten := len(rest) >= 10
	first := slices.IndexFunc(rest, func(c byte) bool { return c < 128 })
	if first < 0 && !ten {
		return 0, 0, api.ErrShort
	}
	if ten && (first < 0 || first > 8) && rest[9] > 1 {
		return 0, 0, api.ErrForm
	}
	if first > 0 && rest[first] == 0 {
		return 0, 0, api.ErrForm
	}
	sum, weight := new(big.Int), big.NewInt(1)
	for _, c := range rest[:first+1] {
		sum.Add(sum, new(big.Int).Mul(weight, big.NewInt(int64(c%128))))
		weight.Mul(weight, big.NewInt(128))
	}
	return sum.Uint64(), first + 1, nil
}

// hold fails the test, if Get answers otherwise than it must.
func hold(t *testing.T, b []byte, at int, v uint64, n int, want error) {
	t.Helper()
	gotV, gotN, err := uvar.Get(b, at)
	if gotV != v || gotN != n || err != want {
		t.Fatalf("Get(%v, %d): %d, %d, %v; want %d, %d, %v", b, at, gotV, gotN, err, v, n, want)
	}
}

// holdTold holds Get against told.
func holdTold(t *testing.T, b []byte, at int) {
	t.Helper()
	v, n, err := told(b, at)
	hold(t, b, at, v, n, err)
}

// mixed tells bytes that hang on a start alone, most of them saying that there is one behind.
func mixed(start uint64, size int) []byte {
	b := make([]byte, size)
	v := start
	for i := range b {
		v = v*6364136223846793005 + 1442695040888963407
		b[i] = byte(v >> 56)
		if v>>40%8 != 0 {
			b[i] |= 128
		}
	}
	return b
}

// around tells what may stand ahead of, or behind, a number's bytes.
func around() [][]byte {
	return [][]byte{nil, {0}, {1}, {127}, {128}, {255}, {200, 9}, ended(255, 12, 255), ended(128, 12, 128), ended(0, 12, 0), mixed(7, 30)}
}

func TestPutTellsBytes(t *testing.T) {
	for _, f := range forms() {
		if got := uvar.Put(f.v); !bytes.Equal(got, f.b) {
			t.Errorf("%d: %v, want %v", f.v, got, f.b)
		}
	}
}

// However the bytes are made: they are the number's, and as few as there can be.
func TestPutTellsTheFewestBytes(t *testing.T) {
	for _, v := range numbers() {
		b := uvar.Put(v)
		sum, weight := new(big.Int), big.NewInt(1)
		for i, c := range b {
			if (c >= 128) != (i < len(b)-1) {
				t.Fatalf("%d: the highest bit of byte %d of %v", v, i, b)
			}
			sum.Add(sum, new(big.Int).Mul(weight, big.NewInt(int64(c%128))))
			weight.Mul(weight, big.NewInt(128))
		}
		number := new(big.Int).SetUint64(v)
		if sum.Cmp(number) != 0 {
			t.Fatalf("%d: %v are %v", v, b, sum)
		}
		if weight.Cmp(number) <= 0 || len(b) > 1 && weight.Div(weight, big.NewInt(128)).Cmp(number) > 0 {
			t.Fatalf("%d: %d bytes", v, len(b))
		}
	}
}

func TestGetTellsNumbers(t *testing.T) {
	for _, f := range forms() {
		hold(t, f.b, 0, f.v, len(f.b), nil)
	}
}

func TestGetFromInsideOtherBytes(t *testing.T) {
	for _, f := range forms() {
		for _, ahead := range around() {
			for _, behind := range around() {
				b := slices.Concat(ahead, f.b, behind)
				hold(t, b, len(ahead), f.v, len(f.b), nil)
			}
		}
	}
}

// Numbers one behind the other are gone through by how many bytes each has.
func TestGetOneBehindTheOther(t *testing.T) {
	var b []byte
	for _, v := range numbers() {
		b = append(b, uvar.Put(v)...)
	}
	at := 0
	for i, want := range numbers() {
		v, n, err := uvar.Get(b, at)
		if v != want || n != len(uvar.Put(want)) || err != nil {
			t.Fatalf("the %d-th, at %d: %d, %d, %v; want %d", i, at, v, n, err, want)
		}
		at += n
	}
	hold(t, b, at, 0, 0, api.ErrShort)
}

func TestGetFromWhereNoByteIs(t *testing.T) {
	for _, b := range [][]byte{nil, {}, {0}, {1}, {128}, {255, 1}, ended(0, 10, 0), ended(255, 10, 1), ended(255, 10, 255), ended(1, 100, 1)} {
		for _, at := range []int{-1, -2, -9, -10, -len(b), -len(b) - 1, math.MinInt, math.MinInt + 1} {
			if at < 0 {
				hold(t, b, at, 0, 0, api.ErrShort)
			}
		}
		for _, more := range []int{0, 1, 2, 9, 10, 11, 1000} {
			hold(t, b, len(b)+more, 0, 0, api.ErrShort)
		}
		for _, at := range []int{math.MaxInt, math.MaxInt - 1, math.MaxInt - 9, math.MaxInt - 10, math.MaxInt32} {
			hold(t, b, at, 0, 0, api.ErrShort)
		}
	}
}

func TestGetOfBytesThatEndTooEarly(t *testing.T) {
	for n := 1; n <= 9; n++ {
		for _, c := range []byte{128, 129, 200, 254, 255} {
			for _, last := range []byte{128, 129, 255} {
				for _, ahead := range around() {
					b := append(bytes.Clone(ahead), ended(c, n, last)...)
					hold(t, b, len(ahead), 0, 0, api.ErrShort)
				}
			}
		}
	}
}

// The room behind a slice's end isn't handed in: its bytes aren't there.
func TestGetStaysWithinTheSlice(t *testing.T) {
	for _, room := range []byte{0, 1, 2, 127, 128, 255} {
		for n := range 10 {
			memory := append(ended(255, n+1, 255), ended(room, 20, room)...)
			hold(t, memory[:n], 0, 0, 0, api.ErrShort)
			hold(t, memory[:n+1][1:], 0, 0, 0, api.ErrShort)
			hold(t, memory[:n], n, 0, 0, api.ErrShort)
			hold(t, memory[:n], n+1, 0, 0, api.ErrShort)
		}
	}
	hold(t, []byte{128, 1, 0}[:1], 0, 0, 0, api.ErrShort)
}

func TestGetOfATenthByte(t *testing.T) {
	for _, c := range []byte{128, 129, 200, 255} {
		nine := ended(c, 9, c)
		var nineSum uint64
		for range 9 {
			nineSum = 128*nineSum + uint64(c%128)
		}
		for tenth := range 256 {
			for _, ahead := range around() {
				for _, behind := range around() {
					b := slices.Concat(ahead, nine, []byte{byte(tenth)}, behind)
					if tenth == 1 {
						hold(t, b, len(ahead), 1<<63+nineSum, 10, nil)
					} else {
						hold(t, b, len(ahead), 0, 0, api.ErrForm)
					}
				}
			}
		}
	}
}

func TestGetOfALastByteOfNothing(t *testing.T) {
	for n := 2; n <= 10; n++ {
		for _, c := range []byte{128, 129, 200, 255} {
			for _, ahead := range around() {
				for _, behind := range around() {
					b := slices.Concat(ahead, ended(c, n, 0), behind)
					hold(t, b, len(ahead), 0, 0, api.ErrForm)
				}
			}
		}
	}
	// The byte ahead of it doesn't matter, nor does a place behind it.
	hold(t, []byte{128, 255, 0, 1}, 0, 0, 0, api.ErrForm)
	hold(t, []byte{255, 128, 0, 1}, 0, 0, 0, api.ErrForm)
	hold(t, []byte{255, 128, 0, 1}, 2, 0, 1, nil)
	hold(t, []byte{128, 128, 1, 0}, 0, 1<<14, 3, nil)
}

func TestGetOfASingleByte(t *testing.T) {
	for c := range 256 {
		for _, ahead := range around() {
			b := append(bytes.Clone(ahead), byte(c))
			if c < 128 {
				hold(t, b, len(ahead), uint64(c), 1, nil)
			} else {
				hold(t, b, len(ahead), 0, 0, api.ErrShort)
			}
		}
	}
}

// Every two bytes, from each place and from the end, and with a third one behind them.
func TestGetOfEveryFewBytes(t *testing.T) {
	edge := []byte{0, 1, 2, 3, 63, 64, 126, 127, 128, 129, 130, 191, 192, 254, 255}
	for first := range 256 {
		for second := range 256 {
			for _, third := range edge {
				b := []byte{byte(first), byte(second), third}
				holdTold(t, b, 0)
			}
			for at := -1; at <= 3; at++ {
				holdTold(t, []byte{byte(first), byte(second)}, at)
			}
		}
	}
}

func TestGetOfMixedBytes(t *testing.T) {
	for start := range uint64(400) {
		b := mixed(start, int(start%50))
		for at := -1; at <= len(b)+1; at++ {
			holdTold(t, b, at)
		}
	}
}

// The error is the api's own value: one that is only like it, or wraps it, is another one.
func TestErrorsAreTheCodesThemselves(t *testing.T) {
	for _, c := range []struct {
		b    []byte
		at   int
		want api.Code
	}{
		{nil, 0, api.ErrShort},
		{[]byte{1}, -1, api.ErrShort},
		{[]byte{1}, 2, api.ErrShort},
		{[]byte{128}, 0, api.ErrShort},
		{[]byte{128, 0}, 0, api.ErrForm},
		{ended(255, 10, 2), 0, api.ErrForm},
		{ended(255, 11, 255), 0, api.ErrForm},
	} {
		_, _, err := uvar.Get(c.b, c.at)
		if code, ok := err.(api.Code); !ok || code != c.want {
			t.Errorf("%v, %d: %#v", c.b, c.at, err)
		}
	}
}

// overwrite turns every bit of a slice's memory, that behind its end, too.
func overwrite(b []byte) {
	b = b[:cap(b)]
	for i := range b {
		b[i] = ^b[i]
	}
}

func TestPutIsNewMemory(t *testing.T) {
	for _, f := range forms() {
		first, second := uvar.Put(f.v), uvar.Put(f.v)
		overwrite(first)
		if !bytes.Equal(second, f.b) {
			t.Errorf("%d: two answers share memory: %v", f.v, second)
		}
		if third := uvar.Put(f.v); !bytes.Equal(third, f.b) {
			t.Errorf("%d: behind a change of what was told: %v", f.v, third)
		}
	}
}

// What was told stays as it was, whatever is put behind it.
func TestWhatWasPutStays(t *testing.T) {
	var all [][]byte
	for _, f := range forms() {
		all = append(all, uvar.Put(f.v))
	}
	for i, f := range forms() {
		if !bytes.Equal(all[i], f.b) {
			t.Fatalf("%d: %v, want %v", f.v, all[i], f.b)
		}
		overwrite(all[i])
	}
}

func TestGetChangesNothing(t *testing.T) {
	lists := [][]byte{nil, {0}, {128}, {128, 0}, ended(255, 9, 255), ended(255, 10, 2), ended(255, 11, 255), mixed(3, 40)}
	for _, f := range forms() {
		lists = append(lists, f.b)
	}
	for _, b := range lists {
		for _, room := range []byte{0, 1, 0x5a, 128, 255} {
			memory := append(bytes.Clone(b), ended(room, 32, room)...)
			before := bytes.Clone(memory)
			for at := -1; at <= len(b)+1; at++ {
				uvar.Get(memory[:len(b)], at)
				// Held against it behind each call: two changes may undo each other.
				if !bytes.Equal(memory, before) {
					t.Fatalf("Get(%v, %d): %v, was %v", b, at, memory, before)
				}
			}
		}
	}
}

// Get hangs on what it is given alone, not on what an earlier call saw.
func TestGetKeepsNothing(t *testing.T) {
	b := []byte{172, 2}
	hold(t, b, 0, 300, 2, nil)
	b[0], b[1] = 128, 0
	hold(t, b, 0, 0, 0, api.ErrForm)
	b[1] = 255
	hold(t, b, 0, 0, 0, api.ErrShort)
	b[1] = 1
	hold(t, b, 0, 128, 2, nil)
}

func TestWhatWasPutIsGot(t *testing.T) {
	for _, v := range numbers() {
		put := uvar.Put(v)
		for _, ahead := range around() {
			for _, behind := range around() {
				hold(t, slices.Concat(ahead, put, behind), len(ahead), v, len(put), nil)
			}
			for cut := range put {
				hold(t, append(bytes.Clone(ahead), put[:cut]...), len(ahead), 0, 0, api.ErrShort)
			}
		}
	}
}

func TestWhatIsGotIsPut(t *testing.T) {
	got := 0
	check := func(b []byte, at int) {
		t.Helper()
		v, n, err := uvar.Get(b, at)
		if err != nil {
			return
		}
		got++
		if put := uvar.Put(v); n < 1 || n > len(b)-at || !bytes.Equal(put, b[at:at+n]) {
			t.Fatalf("%v from %d: %d, %d; put: %v", b, at, v, n, put)
		}
	}
	for first := range 256 {
		for second := range 256 {
			for _, third := range []byte{0, 1, 127, 128, 255} {
				check([]byte{byte(first), byte(second), third}, 0)
			}
		}
	}
	for start := range uint64(600) {
		b := mixed(start, 60)
		for at := range b {
			check(b, at)
		}
	}
	for n := 1; n <= 11; n++ {
		for _, c := range []byte{128, 129, 200, 255} {
			for last := range 256 {
				check(ended(c, n, byte(last)), 0)
			}
		}
	}
	if got < 100000 {
		t.Errorf("only %d numbers were got", got)
	}
}
