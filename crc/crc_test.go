package crc

import (
	"hash/crc32"
	"testing"
)

// text is bytes that look like no pattern.
func text(n int) []byte {
	b := make([]byte, n)
	v := uint32(12345)
	for i := range b {
		v = v*1664525 + 1013904223
		b[i] = byte(v >> 24)
	}
	return b
}

func TestTableIsEightStepsOfEachByte(t *testing.T) {
	if Table() != [256]uint32(*crc32.IEEETable) {
		t.Error("table")
	}
	if x := Table(); x[0] != 0 || x[1] != 0x77073096 || x[128] != 0xEDB88320 || x[255] != 0x2D02EF8D {
		t.Errorf("%x", x)
	}
}

func TestOfAndMore(t *testing.T) {
	if Of(nil) != 0 || More(7, nil) != 7 {
		t.Error("nothing")
	}
	if x := Of([]byte("123456789")); x != 0xCBF43926 {
		t.Errorf("%x", x)
	}
	b := text(700)
	for _, n := range []int{0, 1, 2, 255, 256, 700} {
		if Of(b[:n]) != crc32.ChecksumIEEE(b[:n]) {
			t.Error(n)
		}
		if More(Of(b[:n]), b[n:]) != Of(b) {
			t.Error("more", n)
		}
	}
}

// slowShift is Shift by its words alone.
func slowShift(sum uint32, n int) uint32 {
	for range n * 8 {
		if sum%2 == 1 {
			sum = sum/2 ^ 0xEDB88320
		} else {
			sum /= 2
		}
	}
	return sum
}

func TestShift(t *testing.T) {
	for _, sum := range []uint32{0, 1, 0x80000000, 0xCBF43926, 1<<32 - 1} {
		for _, n := range []int{0, 1, 2, 9, 300} {
			if Shift(sum, n) != slowShift(sum, n) {
				t.Error(sum, n)
			}
		}
		if Shift(sum, -1) != sum || Shift(sum, -1<<62) != sum {
			t.Error("below 0", sum)
		}
		if Shift(sum, 65537) != slowShift(sum, 65536) || Shift(sum, 1<<62) != Shift(sum, 65536) || sum != 0 && Shift(sum, 65535) == Shift(sum, 65536) {
			t.Error("above 65536", sum)
		}
	}
}

func TestJoin(t *testing.T) {
	b := text(600)
	for _, n := range []int{0, 1, 5, 300, 599, 600} {
		if Join(Of(b[:n]), Of(b[n:]), len(b)-n) != Of(b) {
			t.Error(n)
		}
	}
	if Join(5, 9, -3) != 5^9 {
		t.Error("below 0")
	}
}

func TestTurnedBitsAreAnotherSum(t *testing.T) {
	b := text(40)
	sum := Of(b)
	for bit := range len(b) * 8 {
		for n := 1; n <= 32; n++ {
			c := append([]byte(nil), b...)
			for i := bit; i < bit+n && i < len(b)*8; i++ {
				if i == bit || i == bit+n-1 || i*n%3 == 0 {
					c[i/8] ^= 1 << (i % 8)
				}
			}
			if Of(c) == sum {
				t.Fatal(bit, n)
			}
		}
	}
}
