package crc_test

import (
	"bytes"
	"hash/crc32"
	"math/bits"
	"slices"
	"testing"

	"gaiter/crc"
)

// form is bytes, and their sum written out.
type form struct {
	b   []byte
	sum uint32
}

// zeros tells n bytes of 0.
func zeros(n int) []byte { return make([]byte, n) }

// ones tells n bytes of 255.
func ones(n int) []byte { return bytes.Repeat([]byte{255}, n) }

// rising tells n bytes, each by 1 above the one ahead of it, from 0 on.
func rising(n int) []byte {
	b := make([]byte, n)
	for i := range b {
		b[i] = byte(i)
	}
	return b
}

// mixed tells bytes that hang on a start alone.
func mixed(start uint64, size int) []byte {
	b := make([]byte, size)
	v := start*2862933555777941757 + 3037000493
	for i := range b {
		v = v*6364136223846793005 + 1442695040888963407
		b[i] = byte(v >> 56)
	}
	return b
}

// named tells the bytes that the document, or the issue, names, and others whose sums are well known.
func named() []form {
	return []form{
		{nil, 0},
		{[]byte{}, 0},
		{[]byte("123456789"), 0xcbf43926},
		{[]byte("a"), 0xe8b7be43},
		{[]byte("abc"), 0x352441c2},
		{[]byte("message digest"), 0x20159d7f},
		{[]byte("abcdefghijklmnopqrstuvwxyz"), 0x4c2750bd},
		{[]byte("The quick brown fox jumps over the lazy dog"), 0x414fa339},
		{[]byte("gaiter"), 0xb336374b},
		{[]byte{0}, 0xd202ef8d},
		{[]byte{1}, 0xa505df1b},
		{[]byte{2}, 0x3c0c8ea1},
		{[]byte{127}, 0x12b88320},
		{[]byte{128}, 0x3fba6cad},
		{[]byte{254}, 0x88073096},
		{[]byte{255}, 0xff000000},
		{[]byte{1, 2}, 0xb6cc4292},
		{[]byte{2, 1}, 0x04e840eb},
		{[]byte{0, 255}, 0x6cdbfd72},
		{[]byte{255, 0}, 0xd2fdef8d},
		{zeros(2), 0x41d912ff},
		{zeros(3), 0xff41d912},
		{zeros(4), 0x2144df1c},
		{zeros(8), 0x6522df69},
		{zeros(32), 0x190a55ad},
		{zeros(70), 0xf07a8cd3},
		{ones(2), 0xffff0000},
		{ones(3), 0xffffff00},
		{ones(4), 0xffffffff},
		{ones(8), 0x2144df1c},
		{ones(32), 0xff6cab0b},
		{ones(70), 0x718866ca},
		{rising(32), 0x91267e8a},
		{rising(256), 0x29058c73},
	}
}

// register is 32 bits, the lowest one first.
type register [32]bool

// turned tells the register, turned by the bits of a number.
func (r register) turned(by uint32) register {
	for i := range r {
		if by>>i&1 == 1 {
			r[i] = !r[i]
		}
	}
	return r
}

// down tells the register, shifted by one bit, and the bit that went out.
func (r register) down() (register, bool) {
	var next register
	copy(next[:], r[1:])
	return next, r[0]
}

// told tells what Sum must answer, by the words of 'A sum', bit by bit.
func told(b []byte) uint32 {
	r := register{}.turned(0xffffffff)
	for _, c := range b {
		r = r.turned(uint32(c))
		for range 8 {
			next, out := r.down()
			if out {
				next = next.turned(0xedb88320)
			}
			r = next
		}
	}
	var sum uint32
	for i, one := range r {
		if !one {
			sum += 1 << i
		}
	}
	return sum
}

// hold fails the test, if Sum answers otherwise than it must.
func hold(t *testing.T, b []byte, want uint32) {
	t.Helper()
	if got := crc.Sum(b); got != want {
		t.Fatalf("%d bytes %v: %#08x, want %#08x", len(b), b[:min(len(b), 80)], got, want)
	}
}

// holdTold holds Sum against the definition, and the definition against the library's.
func holdTold(t *testing.T, b []byte) {
	t.Helper()
	want := told(b)
	if known := crc32.ChecksumIEEE(b); known != want {
		t.Fatalf("the test's own sum of %v is %#08x, not %#08x", b, want, known)
	}
	hold(t, b, want)
}

func TestSumOfNamedBytes(t *testing.T) {
	for _, f := range named() {
		hold(t, f.b, f.sum)
		holdTold(t, f.b)
	}
}

func TestSumOfNoBytes(t *testing.T) {
	hold(t, nil, 0)
	hold(t, []byte{}, 0)
	hold(t, rising(9)[4:4], 0)
	hold(t, rising(9)[9:], 0)
}

func TestSumOfEachSingleByte(t *testing.T) {
	for c := range 256 {
		holdTold(t, []byte{byte(c)})
	}
}

func TestSumOfPairs(t *testing.T) {
	few := []byte{0, 1, 2, 3, 7, 8, 15, 16, 31, 32, 63, 64, 85, 127, 128, 129, 170, 192, 224, 240, 248, 254, 255}
	seen := map[uint32]bool{}
	for _, first := range few {
		for _, second := range few {
			holdTold(t, []byte{first, second})
			seen[crc.Sum([]byte{first, second})] = true
		}
	}
	if len(seen) != len(few)*len(few) {
		t.Errorf("%d pairs have %d sums", len(few)*len(few), len(seen))
	}
}

func TestSumOfTheSameByteAgainAndAgain(t *testing.T) {
	for n := 1; n <= 70; n++ {
		for _, c := range []byte{0, 255, 1, 128, 0x55, 0xaa} {
			holdTold(t, bytes.Repeat([]byte{c}, n))
		}
	}
}

// Bytes of 0, too, are told by how many they are, ahead of others and behind them.
func TestSumTellsHowManyZerosThereAre(t *testing.T) {
	for _, b := range [][]byte{{}, {1}, ones(3), []byte("123456789"), mixed(5, 30)} {
		ahead, behind := map[uint32]bool{}, map[uint32]bool{}
		for n := range 71 {
			x, y := slices.Concat(zeros(n), b), slices.Concat(b, zeros(n))
			holdTold(t, x)
			holdTold(t, y)
			ahead[crc.Sum(x)] = true
			behind[crc.Sum(y)] = true
		}
		if len(ahead) != 71 {
			t.Errorf("71 counts of 0s ahead of %v have %d sums", b, len(ahead))
		}
		if len(behind) != 71 {
			t.Errorf("71 counts of 0s behind %v have %d sums", b, len(behind))
		}
	}
	// Only behind four bytes of 255 they aren't: the register is 0 there, and stays so.
	for n := range 71 {
		hold(t, slices.Concat(ones(4), zeros(n)), 0xffffffff)
	}
}

// Among mixed bytes there are sums whose highest bit is 1, and such whose is 0; so with each other bit.
func TestSumOfMixedBytes(t *testing.T) {
	var set, unset [32]int
	for n := 1; n <= 40; n++ {
		for start := range uint64(20) {
			b := mixed(start, n)
			holdTold(t, b)
			sum := crc.Sum(b)
			for i := range 32 {
				if sum>>i&1 == 1 {
					set[i]++
				} else {
					unset[i]++
				}
			}
		}
	}
	for i := range 32 {
		if set[i] < 100 || unset[i] < 100 {
			t.Errorf("bit %d of the sums: %d times 1, %d times 0", i, set[i], unset[i])
		}
	}
}

func TestSumOfTheHighestBit(t *testing.T) {
	for _, f := range []form{
		{[]byte("123456789"), 0xcbf43926},
		{[]byte{255}, 0xff000000},
		{ones(4), 0xffffffff},
		{[]byte("abc"), 0x352441c2},
		{[]byte{127}, 0x12b88320},
		{zeros(4), 0x2144df1c},
	} {
		hold(t, f.b, f.sum)
	}
}

func TestSumOfThousandsOfBytes(t *testing.T) {
	for _, n := range []int{255, 256, 257, 1000, 4095, 4096, 4097, 9999} {
		holdTold(t, mixed(uint64(n), n))
		holdTold(t, zeros(n))
		holdTold(t, ones(n))
		holdTold(t, rising(n))
	}
	for _, n := range []int{65535, 65536, 65537, 1 << 20} {
		b := mixed(uint64(n), n)
		hold(t, b, crc32.ChecksumIEEE(b))
	}
}

// The order counts: bytes that change places have another sum.
func TestSumOfBytesThatChangePlaces(t *testing.T) {
	b := rising(40)
	seen := map[uint32]bool{crc.Sum(b): true}
	count := 1
	for i := range b {
		for k := range i {
			c := bytes.Clone(b)
			c[i], c[k] = c[k], c[i]
			holdTold(t, c)
			seen[crc.Sum(c)] = true
			count++
		}
	}
	if len(seen) != count {
		t.Errorf("%d orders have %d sums", count, len(seen))
	}
}

// Behind bytes and their own sum, its lowest byte first, every register is the same.
func TestSumOfBytesAndTheirSum(t *testing.T) {
	for n := range 60 {
		b := mixed(uint64(n), n)
		s := crc.Sum(b)
		hold(t, append(b, byte(s), byte(s>>8), byte(s>>16), byte(s>>24)), 0x2144df1c)
	}
}

// The room behind a slice's end, and what is ahead of its start, isn't handed in.
func TestSumStaysWithinTheSlice(t *testing.T) {
	for _, f := range named() {
		for _, room := range []byte{0, 1, 128, 255} {
			around := bytes.Repeat([]byte{room}, 9)
			memory := slices.Concat(around, f.b, around)
			hold(t, memory[9:9+len(f.b)], f.sum)
			hold(t, memory[9:9+len(f.b):9+len(f.b)], f.sum)
		}
	}
}

// change tells bytes that are turned, from a place on, by those of by.
func change(b []byte, at int, by []byte) []byte {
	c := bytes.Clone(b)
	for i, m := range by {
		c[at+i] ^= m
	}
	return c
}

// holdOther fails the test, if bytes have the same sum when they are turned, or another one when they are turned back.
func holdOther(t *testing.T, b []byte, at int, by []byte) {
	t.Helper()
	first := crc.Sum(b)
	c := change(b, at, by)
	if bytes.Equal(b, c) {
		t.Fatalf("%v turns nothing", by)
	}
	other := crc.Sum(c)
	if other == first {
		t.Fatalf("%d bytes, turned at %d by %v: %#08x, too", len(b), at, by, first)
	}
	if len(b) < 100 && other != told(c) {
		t.Fatalf("%d bytes, turned at %d by %v: %#08x, want %#08x", len(b), at, by, other, told(c))
	}
	if back := crc.Sum(change(c, at, by)); back != first {
		t.Fatalf("%d bytes, turned at %d by %v, and turned back: %#08x, was %#08x", len(b), at, by, back, first)
	}
}

// spot is a place among bytes where four stand together.
type spot struct {
	b  []byte
	at int
}

// spots tells four bytes at the front, in the middle and at the end: with nothing, with some, and with many ahead and behind.
func spots() []spot {
	var list []spot
	for i, ahead := range []int{0, 1, 2, 3, 4, 5, 30, 3000} {
		for k, behind := range []int{0, 1, 2, 3, 4, 5, 30, 3000} {
			size := ahead + 4 + behind
			list = append(list, spot{mixed(uint64(8*i+k), size), ahead})
			if size < 100 {
				list = append(list, spot{zeros(size), ahead}, spot{ones(size), ahead})
			}
		}
	}
	return list
}

// turns tells what up to four bytes may be turned by: none of them by nothing alone.
func turns() [][]byte {
	var list [][]byte
	for n := 1; n <= 4; n++ {
		list = append(list, ones(n))
		for bit := range 8 * n {
			by := zeros(n)
			by[bit/8] = 1 << (bit % 8)
			list = append(list, by)
		}
		for i := range n {
			by := zeros(n)
			by[i] = 255
			list = append(list, by, change(ones(n), 0, by))
		}
		for start := range uint64(12) {
			list = append(list, mixed(start, n))
		}
	}
	// Those of the number by which the register itself is turned, in any order.
	list = append(list, []byte{0xed, 0xb8, 0x83, 0x20}, []byte{0x20, 0x83, 0xb8, 0xed}, []byte{0x04, 0xc1, 0x1d, 0xb7}, []byte{0xb7, 0x1d, 0xc1, 0x04})
	return slices.DeleteFunc(list, func(by []byte) bool { return bytes.Equal(by, zeros(len(by))) })
}

func TestBytesThatAreOthersHaveAnotherSum(t *testing.T) {
	if n := len(turns()); n < 100 {
		t.Fatalf("only %d turns", n)
	}
	for _, s := range spots() {
		for _, by := range turns() {
			holdOther(t, s.b, s.at, by)
			// The same, as near to the end of the four as may be.
			holdOther(t, s.b, s.at+4-len(by), by)
		}
	}
}

// A byte that is another one, in each of the ways in which it may be.
func TestAByteThatIsAnotherHasAnotherSum(t *testing.T) {
	for _, s := range spots() {
		if len(s.b) > 100 {
			continue
		}
		for by := 1; by < 256; by++ {
			holdOther(t, s.b, s.at, []byte{byte(by)})
		}
	}
}

// Two bytes that are others: all ways have sums of their own.
func TestTwoBytesThatAreOthersHaveAnotherSum(t *testing.T) {
	for _, s := range []spot{{zeros(2), 0}, {ones(2), 0}, {mixed(1, 9), 0}, {mixed(2, 9), 3}, {mixed(3, 9), 7}} {
		seen := map[uint32]bool{}
		for by := range 1 << 16 {
			seen[crc.Sum(change(s.b, s.at, []byte{byte(by), byte(by >> 8)}))] = true
		}
		if len(seen) != 1<<16 {
			t.Errorf("two bytes of %v at %d: %d sums", s.b, s.at, len(seen))
		}
	}
}

// Each single bit of many bytes, turned.
func TestABitThatIsAnotherHasAnotherSum(t *testing.T) {
	b := mixed(11, 500)
	seen := map[uint32]bool{crc.Sum(b): true}
	for bit := range 8 * len(b) {
		c := change(b, bit/8, []byte{1 << (bit % 8)})
		seen[crc.Sum(c)] = true
		hold(t, c, crc32.ChecksumIEEE(c))
		holdOther(t, b, bit/8, []byte{1 << (bit % 8)})
	}
	if len(seen) != 8*len(b)+1 {
		t.Errorf("%d sums of %d", len(seen), 8*len(b)+1)
	}
}

// wayOf tells by what the sum is turned, if each single bit of four bytes is.
func wayOf(s spot) [32]uint32 {
	var way [32]uint32
	first := crc.Sum(s.b)
	for bit := range way {
		by := zeros(4)
		by[bit/8] = 1 << (bit % 8)
		way[bit] = first ^ crc.Sum(change(s.b, s.at, by))
	}
	return way
}

// rank tells how many of the numbers are none that others of them, turned by each other, are.
func rank(way [32]uint32) int {
	n := 0
	for i, v := range way {
		if v == 0 {
			continue
		}
		n++
		top := uint32(1) << (31 - bits.LeadingZeros32(v))
		for k := i + 1; k < len(way); k++ {
			if way[k]&top != 0 {
				way[k] ^= v
			}
		}
	}
	return n
}

// All ways in which four bytes may be others are too many to be gone through. But the sum is turned bit by bit as they
// are; and if no bits of them that are turned leave the sum as it is, then none of all the ways does.
func TestNoWayToTurnFourBytesLeavesTheSum(t *testing.T) {
	for _, s := range spots() {
		way := wayOf(s)
		if n := rank(way); n != 32 {
			t.Fatalf("%d bytes, at %d: only %d of 32 bits count", len(s.b), s.at, n)
		}
		for start := range uint64(40) {
			by := mixed(start+100, 4)
			want := crc.Sum(s.b)
			for bit, turn := range way {
				if by[bit/8]>>(bit%8)&1 == 1 {
					want ^= turn
				}
			}
			hold(t, change(s.b, s.at, by), want)
		}
	}
}

// The promise ends at four bytes: five may be others, with the sum that they had.
func TestFiveBytesMayHaveTheSameSum(t *testing.T) {
	for size := 5; size < 40; size++ {
		for at := range size - 4 {
			b := mixed(uint64(size), size)
			hold(t, change(b, at, []byte{0x41, 0x06, 0x71, 0xdb, 0x01}), crc.Sum(b))
		}
	}
}

func TestSumChangesNothing(t *testing.T) {
	lists := [][]byte{nil, {0}, {255}, zeros(70), ones(70), rising(256), mixed(9, 5000)}
	for _, f := range named() {
		lists = append(lists, f.b)
	}
	for _, b := range lists {
		for _, room := range []byte{0, 0x5a, 255} {
			around := bytes.Repeat([]byte{room}, 16)
			memory := slices.Concat(around, b, around)
			before := bytes.Clone(memory)
			crc.Sum(memory[16 : 16+len(b)])
			if !bytes.Equal(memory, before) {
				t.Fatalf("%v: %v, was %v", b, memory, before)
			}
			crc.Sum(memory[16 : 16+len(b) : 16+len(b)])
			if !bytes.Equal(memory, before) {
				t.Fatalf("%v, without room behind: %v, was %v", b, memory, before)
			}
		}
	}
}

// The same bytes have the same sum again, whatever was asked in between.
func TestSumKeepsNothing(t *testing.T) {
	for _, f := range named() {
		for _, g := range named() {
			hold(t, f.b, f.sum)
			hold(t, g.b, g.sum)
			hold(t, f.b, f.sum)
			hold(t, f.b, f.sum)
		}
	}
}

// Bytes that are changed behind a call have the sum of what they are then.
func TestSumOfBytesThatAreChangedAfterwards(t *testing.T) {
	b := []byte("123456789")
	hold(t, b, 0xcbf43926)
	for i := range b {
		for c := range 256 {
			was := b[i]
			b[i] = byte(c)
			holdTold(t, b)
			b[i] = was
			hold(t, b, 0xcbf43926)
		}
	}
	long := mixed(4, 3000)
	for i := 0; i < len(long); i += 7 {
		first := crc.Sum(long)
		long[i]++
		hold(t, long, crc32.ChecksumIEEE(long))
		long[i]--
		hold(t, long, first)
		long[i] = ^long[i]
	}
}
