package sum_test

import (
	"bytes"
	"hash/crc32"
	"math/bits"
	"math/rand"
	"slices"
	"strings"
	"sync"
	"testing"

	"leverman/sum"
)

// generator is CRC-32's polynomial, a digit for each power, from the 32nd down to 0.
const generator = "100000100110000010001110110110111"

func of(t *testing.T, b []byte, want uint32) {
	t.Helper()
	if got := sum.Of(b); got != want {
		t.Errorf("Of(%x) = %08x, want %08x", b, got, want)
	}
}

func seal(t *testing.T, b, want []byte) {
	t.Helper()
	if got := sum.Seal(b); !bytes.Equal(got, want) {
		t.Errorf("Seal(%x) = %x, want %x", b, got, want)
	}
}

func opens(t *testing.T, b, want []byte) {
	t.Helper()
	if got, ok := sum.Open(b); !ok || !bytes.Equal(got, want) {
		t.Errorf("Open(%x) = %x, %t, want %x, true", b, got, ok, want)
	}
}

func refuses(t *testing.T, b []byte) {
	t.Helper()
	if got, ok := sum.Open(b); ok || len(got) != 0 {
		t.Errorf("Open(%x) = %x, %t, want none, false", b, got, ok)
	}
}

// drawn gives bytes that are drawn.
func drawn(r *rand.Rand, n int) []byte {
	b := make([]byte, n)
	r.Read(b)
	return b
}

// low gives a number's four bytes, the lowest first.
func low(n uint32) []byte {
	return []byte{byte(n % 256), byte(n / 256 % 256), byte(n / 65536 % 256), byte(n / 16777216)}
}

// divided gives the sum of bytes by another way: as what is left when a row of bits is divided by the generator.
func divided(b []byte) uint32 {
	var row []int
	for _, x := range b {
		for range 8 {
			row = append(row, int(x%2))
			x /= 2
		}
	}
	row = append(row, make([]int, 32)...)
	for i := range 32 {
		row[i] = 1 - row[i]
	}
	for i := range len(row) - 32 {
		if row[i] == 1 {
			for j, digit := range generator {
				row[i+j] = (row[i+j] + int(digit-'0')) % 2
			}
		}
	}
	n, worth := uint32(0), uint32(1)
	for _, x := range row[len(row)-32:] {
		n += uint32(1-x) * worth
		worth *= 2
	}
	return n
}

// P16.1: Of.

func TestOfByHand(t *testing.T) {
	of(t, []byte("123456789"), 0xcbf43926)
	of(t, nil, 0)
	of(t, []byte{}, 0)
	of(t, []byte("a"), 0xe8b7be43)
	of(t, []byte("ab"), 0x9e83486d)
	of(t, []byte("abc"), 0x352441c2)
	of(t, []byte("LEVR\x01"), 0x6050b718)
	of(t, []byte("The quick brown fox jumps over the lazy dog"), 0x414fa339)
	of(t, []byte{0}, 0xd202ef8d)
	of(t, []byte{1}, 0xa505df1b)
	of(t, []byte{0x80}, 0x3fba6cad)
	of(t, []byte{0xff}, 0xff000000)
	of(t, []byte{0, 1}, 0x36de2269)
	of(t, []byte{1, 0}, 0x58c223be)
}

// Noughts count, and as many ones as a sum has begin it anew.
func TestOfNoughtsAndOnes(t *testing.T) {
	of(t, make([]byte, 4), 0x2144df1c)
	of(t, make([]byte, 32), 0x190a55ad)
	of(t, bytes.Repeat([]byte{0xff}, 2), 0xffff0000)
	of(t, bytes.Repeat([]byte{0xff}, 3), 0xffffff00)
	of(t, bytes.Repeat([]byte{0xff}, 4), 0xffffffff)
	of(t, bytes.Repeat([]byte{0xff}, 32), 0xff6cab0b)
}

func TestOfEachByteOnce(t *testing.T) {
	var up, down []byte
	for x := range 256 {
		up = append(up, byte(x))
		down = append(down, byte(255-x))
	}
	of(t, up[:32], 0x91267e8a)
	of(t, down[224:], 0x9ab0ef72)
	of(t, up, 0x29058c73)
	of(t, down, divided(down))
}

func TestOfAllSingleBytes(t *testing.T) {
	for x := range 256 {
		b := []byte{byte(x)}
		of(t, b, divided(b))
	}
}

func TestOfAllPairs(t *testing.T) {
	for x := range 65536 {
		b := []byte{byte(x / 256), byte(x % 256)}
		of(t, b, crc32.ChecksumIEEE(b))
	}
}

// Each bit alone, among bits that are 0, and among bits that are 1.
func TestOfEachBitAlone(t *testing.T) {
	for n := range 20 {
		for place := range 8 * n {
			b := make([]byte, n)
			turn(b, place)
			of(t, b, divided(b))
			for i := range b {
				b[i] = 255 - b[i]
			}
			of(t, b, divided(b))
		}
	}
}

func TestOfDrawnBytes(t *testing.T) {
	r := rand.New(rand.NewSource(1))
	for n := range 600 {
		for range 3 {
			b := drawn(r, n)
			of(t, b, divided(b))
			of(t, b, crc32.ChecksumIEEE(b))
		}
	}
}

// As long as any image of a table, and far longer.
func TestOfManyBytes(t *testing.T) {
	r := rand.New(rand.NewSource(2))
	for _, n := range []int{4095, 4096, 4097, 65535, 65536, 65537, 1 << 20, 3000001} {
		b := drawn(r, n)
		want := crc32.ChecksumIEEE(b)
		if got := sum.Of(b); got != want {
			t.Errorf("Of(%d bytes) = %08x, want %08x", n, got, want)
		}
		sealed := sum.Seal(b)
		got, ok := sum.Open(sealed)
		if len(sealed) != n+4 || !ok || !bytes.Equal(got, b) {
			t.Errorf("%d bytes that are sealed aren't opened", n)
		}
		turn(sealed, r.Intn(8*len(sealed)))
		if got, ok := sum.Open(sealed); ok || len(got) != 0 {
			t.Errorf("of %d bytes a bit is turned, and they are opened", n)
		}
	}
}

// P16.1: Seal.

func TestSealByHand(t *testing.T) {
	seal(t, []byte("123456789"), []byte("123456789\x26\x39\xf4\xcb"))
	seal(t, nil, []byte{0, 0, 0, 0})
	seal(t, []byte{}, []byte{0, 0, 0, 0})
	seal(t, []byte("a"), []byte("a\x43\xbe\xb7\xe8"))
	seal(t, []byte("ab"), []byte("ab\x6d\x48\x83\x9e"))
	seal(t, []byte{0}, []byte{0, 0x8d, 0xef, 0x02, 0xd2})
	seal(t, []byte{0xff}, []byte{0xff, 0, 0, 0, 0xff})
	seal(t, []byte{0xff, 0xff, 0xff, 0xff}, []byte{0xff, 0xff, 0xff, 0xff, 0xff, 0xff, 0xff, 0xff})
}

func TestSealOfDrawnBytes(t *testing.T) {
	r := rand.New(rand.NewSource(3))
	for n := range 400 {
		b := drawn(r, n)
		seal(t, b, slices.Concat(b, low(divided(b))))
	}
}

// What is sealed has a sum that doesn't hang on what it is.
func TestOfWhatIsSealed(t *testing.T) {
	r := rand.New(rand.NewSource(4))
	for n := range 200 {
		of(t, sum.Seal(drawn(r, n)), 0x2144df1c)
	}
}

// P16.1: Open.

func TestOpenByHand(t *testing.T) {
	opens(t, []byte("123456789\x26\x39\xf4\xcb"), []byte("123456789"))
	opens(t, []byte{0, 0, 0, 0}, nil)
	opens(t, []byte("a\x43\xbe\xb7\xe8"), []byte("a"))
	opens(t, []byte{0, 0x8d, 0xef, 0x02, 0xd2}, []byte{0})
	opens(t, []byte{0xff, 0, 0, 0, 0xff}, []byte{0xff})
	refuses(t, []byte("abcd"))
	refuses(t, []byte("a\xe8\xb7\xbe\x43"))
	refuses(t, []byte("b\x43\xbe\xb7\xe8"))
	refuses(t, []byte("\x43\xbe\xb7\xe8a"))
}

func TestOpenOfFewerThanFour(t *testing.T) {
	refuses(t, nil)
	refuses(t, []byte{})
	refuses(t, []byte("abc"))
	for x := range 65536 {
		b := []byte{byte(x / 256), byte(x % 256), byte(x / 256)}
		refuses(t, b[:1])
		refuses(t, b[:2])
		refuses(t, b)
	}
	for n := range 4 {
		refuses(t, make([]byte, n))
		refuses(t, bytes.Repeat([]byte{0xff}, n))
	}
}

// Four bytes are the sum of nothing, which is 0.
func TestOpenOfJustFour(t *testing.T) {
	for place := range 4 {
		for x := range 256 {
			b := make([]byte, 4)
			b[place] = byte(x)
			if x == 0 {
				opens(t, b, nil)
				continue
			}
			refuses(t, b)
		}
	}
	refuses(t, bytes.Repeat([]byte{0xff}, 4))
}

// Of each byte of a sum only one is right.
func TestOpenWithEachByteOfASum(t *testing.T) {
	for _, text := range []string{"", "a", "LEVR", strings.Repeat("lever", 20)} {
		for place := len(text); place < len(text)+4; place++ {
			b := sum.Seal([]byte(text))
			right := b[place]
			for x := range 256 {
				b[place] = byte(x)
				if b[place] == right {
					opens(t, b, []byte(text))
					continue
				}
				refuses(t, b)
			}
		}
	}
}

// Sums of another make, or of other bytes, are none.
func TestOpenWithOtherSums(t *testing.T) {
	r := rand.New(rand.NewSource(5))
	for n := 1; n < 200; n++ {
		b := drawn(r, n)
		own := crc32.ChecksumIEEE(b)
		opens(t, slices.Concat(b, low(own)), b)
		refuses(t, slices.Concat(b, low(bits.ReverseBytes32(own))))
		refuses(t, slices.Concat(b, low(bits.Reverse32(own))))
		refuses(t, slices.Concat(b, low(^own)))
		refuses(t, slices.Concat(b, low(own+1)))
		refuses(t, slices.Concat(b, low(0)))
		refuses(t, slices.Concat(low(own), b))
		refuses(t, slices.Concat(b, low(crc32.ChecksumIEEE(b[:n-1]))))
		refuses(t, slices.Concat(b, low(crc32.ChecksumIEEE(b[1:]))))
		refuses(t, slices.Concat(b, low(crc32.Checksum(b, crc32.MakeTable(crc32.Castagnoli)))))
		refuses(t, slices.Concat(b, low(^crc32.Update(^uint32(0), crc32.IEEETable, b))))
	}
}

func TestOpenOfDrawnBytes(t *testing.T) {
	r := rand.New(rand.NewSource(6))
	for n := 4; n < 300; n++ {
		b := drawn(r, n)
		if crc32.ChecksumIEEE(b[:n-4]) == uint32(b[n-4])+uint32(b[n-3])<<8+uint32(b[n-2])<<16+uint32(b[n-1])<<24 {
			t.Fatalf("%x has its sum by chance", b)
		}
		refuses(t, b)
	}
}

// P16.2: what is sealed is opened.

func TestSealedIsOpened(t *testing.T) {
	r := rand.New(rand.NewSource(7))
	for n := range 600 {
		for _, b := range [][]byte{drawn(r, n), make([]byte, n), bytes.Repeat([]byte{0xff}, n)} {
			opens(t, sum.Seal(b), b)
		}
	}
	for x := range 65536 {
		b := []byte{byte(x / 256), byte(x % 256)}
		opens(t, sum.Seal(b), b)
		opens(t, sum.Seal(b[:1]), b[:1])
	}
}

// What is sealed again and again is opened layer by layer.
func TestSealedManyTimes(t *testing.T) {
	layers := [][]byte{[]byte("lever")}
	for i := range 50 {
		layers = append(layers, sum.Seal(layers[i]))
	}
	for i := 50; i > 0; i-- {
		opens(t, layers[i], layers[i-1])
	}
	refuses(t, layers[0])
}

// P16.2: bits that are turned are told.

// turn turns a bit, the lowest of the first byte being 0.
func turn(b []byte, place int) { b[place/8] ^= 1 << (place % 8) }

// spoil gives bytes with bits turned from a place on: those that a pattern has, its lowest bit first.
func spoil(b []byte, place int, pattern uint64) []byte {
	b = bytes.Clone(b)
	for ; pattern != 0; pattern /= 2 {
		if pattern%2 == 1 {
			turn(b, place)
		}
		place++
	}
	return b
}

func TestEachBitThatIsTurned(t *testing.T) {
	r := rand.New(rand.NewSource(8))
	for n := range 100 {
		b := sum.Seal(drawn(r, n))
		for place := range 8 * len(b) {
			refuses(t, spoil(b, place, 1))
		}
	}
}

// Any two bits, up to 32 side by side.
func TestEachTwoBitsThatAreTurned(t *testing.T) {
	r := rand.New(rand.NewSource(9))
	for n := range 50 {
		b := sum.Seal(drawn(r, n))
		for place := range 8 * len(b) {
			for width := 1; width < 32 && place+width < 8*len(b); width++ {
				refuses(t, spoil(b, place, 1+1<<width))
			}
		}
	}
}

// All patterns of up to ten bits, wherever they are.
func TestAllShortPatterns(t *testing.T) {
	r := rand.New(rand.NewSource(10))
	for n := range 9 {
		b := sum.Seal(drawn(r, n))
		for pattern := uint64(1); pattern < 1024; pattern += 2 {
			for place := 0; place+bits.Len64(pattern) <= 8*len(b); place++ {
				refuses(t, spoil(b, place, pattern))
			}
		}
		if t.Failed() {
			return
		}
	}
}

// Rows of bits that are all turned, of as many as 32.
func TestRowsThatAreTurned(t *testing.T) {
	r := rand.New(rand.NewSource(11))
	for n := range 40 {
		b := sum.Seal(drawn(r, n))
		for width := 1; width <= 32; width++ {
			for place := 0; place+width <= 8*len(b); place++ {
				refuses(t, spoil(b, place, 1<<width-1))
			}
		}
	}
}

func TestDrawnPatterns(t *testing.T) {
	r := rand.New(rand.NewSource(12))
	for n := range 60 {
		b := sum.Seal(drawn(r, n))
		for place := range 8*len(b) - 31 {
			for range 20 {
				pattern := uint64(r.Uint32())
				if pattern != 0 {
					refuses(t, spoil(b, place, pattern))
				}
			}
		}
		if t.Failed() {
			return
		}
	}
}

// Any four bytes in a row may be any others.
func TestFourBytesThatAreOthers(t *testing.T) {
	r := rand.New(rand.NewSource(13))
	for n := range 60 {
		b := sum.Seal(drawn(r, n))
		for place := range len(b) - 3 {
			for _, other := range [][]byte{drawn(r, 4), {0, 0, 0, 0}, {255, 255, 255, 255}, {b[place+1], b[place], b[place+2], b[place+3]}} {
				c := slices.Concat(b[:place], other, b[place+4:])
				if !bytes.Equal(c, b) {
					refuses(t, c)
				}
			}
		}
	}
}

// off gives how far the last four bytes are from the sum of those ahead: 0, if they are theirs.
func off(b []byte) uint32 {
	last := len(b) - 4
	return sum.Of(b[:last]) ^ (uint32(b[last]) + uint32(b[last+1])<<8 + uint32(b[last+2])<<16 + uint32(b[last+3])<<24)
}

// Where bits are turned together, they are off by what each one is off alone.
func TestBitsAreOffOneByOne(t *testing.T) {
	r := rand.New(rand.NewSource(14))
	for range 2000 {
		b := sum.Seal(drawn(r, r.Intn(80)))
		place, pattern := r.Intn(8*len(b)-31), uint64(r.Uint32())
		want := uint32(0)
		for i := range 32 {
			want ^= off(spoil(b, place, pattern&(1<<i)))
		}
		if got := off(spoil(b, place, pattern)); got != want {
			t.Errorf("%x, with %x turned at %d, is off by %x, want %x", b, pattern, place, got, want)
		}
	}
}

// If no pattern of 32 bits is off by 0, they are off by 32 numbers of which none is made of others: so all patterns are told, at each place.
func TestAllPatternsAtEachPlace(t *testing.T) {
	r := rand.New(rand.NewSource(15))
	for _, n := range []int{0, 1, 2, 3, 4, 5, 9, 60, 300} {
		b := sum.Seal(drawn(r, n))
		for place := range 8*len(b) - 31 {
			var lead [32]uint32
			for i := range 32 {
				x := off(spoil(b, place, 1<<i))
				for x != 0 && lead[bits.Len32(x)-1] != 0 {
					x ^= lead[bits.Len32(x)-1]
				}
				if x == 0 {
					t.Fatalf("of %x a pattern at %d isn't told", b, place)
				}
				lead[bits.Len32(x)-1] = x
			}
		}
	}
}

// Of bits among 33 only the generator's own, its highest power first, aren't told: the sum is theirs, too.
func TestOneBitMore(t *testing.T) {
	own := uint64(0)
	for i, digit := range generator {
		own += uint64(digit-'0') << i
	}
	r := rand.New(rand.NewSource(16))
	for n := 1; n < 60; n++ {
		b := sum.Seal(drawn(r, n))
		for place := range 8*len(b) - 32 {
			c := spoil(b, place, own)
			opens(t, c, c[:n])
			for range 5 {
				other := 1 + 1<<32 + uint64(r.Uint32())&^1
				if other != own {
					refuses(t, spoil(b, place, other))
				}
			}
		}
	}
}

// What is handed in isn't changed, answers are new, nothing is kept, and many may call at once.

// spare gives bytes with room behind them, that is filled.
func spare(b []byte) []byte {
	n := len(b)
	b = slices.Concat(b, []byte("filled up"))
	return b[:n:cap(b)]
}

// What lies in spare room isn't of the bytes.
func TestSpareRoomSaysNothing(t *testing.T) {
	of(t, spare(nil), 0)
	of(t, spare([]byte("abc")), 0x352441c2)
	seal(t, spare([]byte("a")), []byte("a\x43\xbe\xb7\xe8"))
	opens(t, spare(sum.Seal([]byte("a"))), []byte("a"))
	refuses(t, spare([]byte("abcd")))
	b := sum.Seal([]byte("a"))
	for n := range b {
		refuses(t, b[:n])
	}
	refuses(t, make([]byte, 3, 4))
}

func TestWhatIsHandedInStaysAsItWas(t *testing.T) {
	for _, b := range [][]byte{spare(nil), spare([]byte("a")), spare([]byte("abcd")), spare(sum.Seal([]byte("abcd"))), spare(sum.Seal(nil))} {
		all := bytes.Clone(b[:cap(b)])
		sum.Of(b)
		sum.Seal(b)
		sum.Open(b)
		if !bytes.Equal(b[:cap(b)], all) {
			t.Errorf("bytes, or their spare room, were changed: %x, now %x", all, b[:cap(b)])
		}
	}
}

// Whoever changes an answer changes neither what was handed in nor another answer.
func TestAnswersStandAlone(t *testing.T) {
	for _, text := range []string{"", "a", "abcd", "a station's table"} {
		b := spare([]byte(text))
		all := bytes.Clone(b[:cap(b)])
		one, two := sum.Seal(b), sum.Seal(b)
		clear(one[:cap(one)])
		if !bytes.Equal(b[:cap(b)], all) || !bytes.Equal(two[:len(text)], []byte(text)) {
			t.Errorf("what is sealed of %q shares its memory", text)
		}
		two = spare(two)
		all = bytes.Clone(two[:cap(two)])
		first, _ := sum.Open(two)
		second, _ := sum.Open(two)
		clear(first[:cap(first)])
		if !bytes.Equal(two[:cap(two)], all) || string(second) != text {
			t.Errorf("what is opened as %q shares its memory", text)
		}
		clear(two[:cap(two)])
		if string(second) != text {
			t.Errorf("what is opened as %q shares the memory of what was handed in", text)
		}
	}
}

func TestCallsHangOnTheirArgumentsAlone(t *testing.T) {
	b := spare([]byte("123456789"))
	sealed := spare(sum.Seal(b))
	spoilt := spoil(sealed, 7, 5)
	var all sync.WaitGroup
	for range 8 {
		all.Go(func() {
			for range 200 {
				of(t, b, 0xcbf43926)
				of(t, nil, 0)
				seal(t, b, []byte("123456789\x26\x39\xf4\xcb"))
				opens(t, sealed, []byte("123456789"))
				refuses(t, spoilt)
				refuses(t, b[:3])
			}
		})
	}
	all.Wait()
}
