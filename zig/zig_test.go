package zig_test

import (
	"math"
	"math/big"
	"testing"

	"gaiter/zig"
)

// pair is a number, and its place, both written out.
type pair struct {
	number int64
	place  uint64
}

// named tells the pairs that the document, or the issue, names.
func named() []pair {
	return []pair{
		{0, 0},
		{-1, 1},
		{1, 2},
		{-2, 3},
		{2, 4},
		{-3, 5},
		{3, 6},
		{-64, 127},
		{64, 128},
		{-65, 129},
		{math.MaxInt32, 4294967294},
		{math.MinInt32, 4294967295},
		{1 << 31, 1 << 32},
		{-1<<31 - 1, 1<<32 + 1},
		{1<<62 - 1, 1<<63 - 2},
		{-1 << 62, 1<<63 - 1},
		{1 << 62, 1 << 63},
		{-1<<62 - 1, 1<<63 + 1},
		{math.MaxInt64 - 2, math.MaxUint64 - 5},
		{math.MinInt64 + 2, math.MaxUint64 - 4},
		{math.MaxInt64 - 1, math.MaxUint64 - 3},
		{math.MinInt64 + 1, math.MaxUint64 - 2},
		{math.MaxInt64, math.MaxUint64 - 1},
		{math.MinInt64, math.MaxUint64},
	}
}

// words tells 64 bits of many kinds: those around every power of two and around every power's opposite, and mixed ones of every length.
func words() []uint64 {
	var list []uint64
	v := uint64(1)
	for n := range 64 {
		for off := range uint64(7) {
			list = append(list, 1<<n+off-3, -(1<<n)+off-3)
		}
		for range 200 {
			v = v*6364136223846793005 + 1442695040888963407
			list = append(list, v>>n, -(v >> n))
		}
	}
	return list
}

// numbers tells the pairs' numbers, the small ones on both sides of 0, and the words as numbers.
func numbers() []int64 {
	var list []int64
	for _, p := range named() {
		list = append(list, p.number)
	}
	for v := int64(-5000); v <= 5000; v++ {
		list = append(list, v)
	}
	for _, w := range words() {
		list = append(list, int64(w))
	}
	return list
}

// places tells the pairs' places, the small ones, and the words as places.
func places() []uint64 {
	var list []uint64
	for _, p := range named() {
		list = append(list, p.place)
	}
	for w := range uint64(10000) {
		list = append(list, w)
	}
	return append(list, words()...)
}

// placeOf tells the place by the words of P4.1, with numbers that know no end.
func placeOf(v int64) *big.Int {
	number := big.NewInt(v)
	if number.Sign() >= 0 {
		return number.Mul(number, big.NewInt(2))
	}
	number.Mul(number, big.NewInt(-2))
	return number.Sub(number, big.NewInt(1))
}

func TestZigTellsThePairs(t *testing.T) {
	for _, p := range named() {
		if got := zig.Zig(p.number); got != p.place {
			t.Errorf("Zig(%d): %d, want %d", p.number, got, p.place)
		}
	}
}

func TestZagTellsThePairs(t *testing.T) {
	for _, p := range named() {
		if got := zig.Zag(p.place); got != p.number {
			t.Errorf("Zag(%d): %d, want %d", p.place, got, p.number)
		}
	}
}

func TestZigTellsThePlaceByItsWords(t *testing.T) {
	for _, v := range numbers() {
		got := zig.Zig(v)
		if want := placeOf(v); new(big.Int).SetUint64(got).Cmp(want) != 0 {
			t.Fatalf("Zig(%d): %d, want %v", v, got, want)
		}
	}
}

// Held against the words, not against Zig: the two could be wrong alike.
func TestZagTellsTheNumberByItsWords(t *testing.T) {
	for _, w := range places() {
		got := zig.Zag(w)
		if place := placeOf(got); new(big.Int).SetUint64(w).Cmp(place) != 0 {
			t.Fatalf("Zag(%d): %d, but the place of that is %v", w, got, place)
		}
	}
}

func TestZagOfZig(t *testing.T) {
	for _, v := range numbers() {
		if got := zig.Zag(zig.Zig(v)); got != v {
			t.Fatalf("Zag(Zig(%d)): %d", v, got)
		}
	}
}

func TestZigOfZag(t *testing.T) {
	for _, w := range places() {
		if got := zig.Zig(zig.Zag(w)); got != w {
			t.Fatalf("Zig(Zag(%d)): %d", w, got)
		}
	}
}

// The same question has the same answer, whatever was asked between.
func TestNothingIsKept(t *testing.T) {
	for range 2 {
		for i := len(named()) - 1; i >= 0; i-- {
			p := named()[i]
			if place, number := zig.Zig(p.number), zig.Zag(p.place); place != p.place || number != p.number {
				t.Fatalf("%d and %d: %d and %d", p.number, p.place, place, number)
			}
		}
	}
}
