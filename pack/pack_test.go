package pack_test

import (
	"bytes"
	"encoding/binary"
	"math"
	"math/big"
	"math/rand"
	"slices"
	"strings"
	"sync"
	"testing"

	"leverman/pack"
)

const (
	most  = math.MaxInt
	least = math.MinInt
)

// rising has another byte in each place.
const rising = uint64(0x0102030405060708)

func put(t *testing.T, b []byte, n uint64, size int, want []byte) {
	t.Helper()
	if got := pack.Put(b, n, size); !bytes.Equal(got, want) {
		t.Errorf("Put(%x, %x, %d) = %x, want %x", b, n, size, got, want)
	}
}

func name(t *testing.T, b []byte, s string, want []byte) {
	t.Helper()
	if got := pack.Name(b, s); !bytes.Equal(got, want) {
		t.Errorf("Name(%x, %q) = %x, want %x", b, s, got, want)
	}
}

// stands holds a cursor's place, whether it is Bad, and that it still reads the same bytes.
func stands(t *testing.T, what string, c *pack.Cur, b []byte, at int, bad bool) {
	t.Helper()
	if c.At != at || c.Bad != bad {
		t.Errorf("%s of %x: At %d, Bad %t, want %d, %t", what, b, c.At, c.Bad, at, bad)
	}
	if !bytes.Equal(c.B, b) {
		t.Errorf("%s of %x: B is %x now", what, b, c.B)
	}
}

// takes wants a number, and the cursor behind its bytes.
func takes(t *testing.T, c *pack.Cur, size int, want uint64) {
	t.Helper()
	b, at := bytes.Clone(c.B), c.At
	if got := c.Take(size); got != want {
		t.Errorf("Take(%d) of %x at %d = %x, want %x", size, b, at, got, want)
	}
	stands(t, "Take", c, b, at+size, false)
}

// lacks wants that there is no such number.
func lacks(t *testing.T, c *pack.Cur, size int) {
	t.Helper()
	b, at := bytes.Clone(c.B), c.At
	if got := c.Take(size); got != 0 {
		t.Errorf("Take(%d) of %x at %d = %x, want 0", size, b, at, got)
	}
	stands(t, "Take", c, b, at, true)
}

// reads wants a text, and the cursor behind its bytes.
func reads(t *testing.T, c *pack.Cur, want string) {
	t.Helper()
	b, at := bytes.Clone(c.B), c.At
	if got := c.Name(); got != want {
		t.Errorf("Name of %x at %d = %q, want %q", b, at, got, want)
	}
	stands(t, "Name", c, b, at+1+len(want), false)
}

// misses wants that there is no text.
func misses(t *testing.T, c *pack.Cur) {
	t.Helper()
	b, at := bytes.Clone(c.B), c.At
	if got := c.Name(); got != "" {
		t.Errorf("Name of %x at %d = %q, want none", b, at, got)
	}
	stands(t, "Name", c, b, at, true)
}

// at gives a cursor at a place.
func at(b []byte, place int) *pack.Cur { return &pack.Cur{B: b, At: place} }

// drawn gives bytes that are drawn.
func drawn(r *rand.Rand, n int) []byte {
	b := make([]byte, n)
	r.Read(b)
	return b
}

// lowest gives a number's lowest bytes by another way.
func lowest(n uint64, size int) []byte {
	whole := binary.BigEndian.AppendUint64(nil, n)
	return whole[len(whole)-size:]
}

// worth gives the number of bytes by another way.
func worth(b []byte) uint64 { return new(big.Int).SetBytes(b).Uint64() }

// P17.1: Put.

func TestPutByHand(t *testing.T) {
	put(t, nil, 258, 3, []byte{0, 1, 2})
	put(t, nil, 258, 2, []byte{1, 2})
	put(t, nil, 258, 1, []byte{2})
	put(t, nil, 258, 0, nil)
	put(t, []byte{}, 0, 0, nil)
	put(t, nil, 0, 1, []byte{0})
	put(t, nil, 0, 8, make([]byte, 8))
	put(t, nil, 255, 1, []byte{255})
	put(t, nil, 256, 1, []byte{0})
	put(t, nil, 256, 2, []byte{1, 0})
	put(t, nil, 65535, 2, []byte{255, 255})
	put(t, nil, 65536, 2, []byte{0, 0})
	put(t, nil, 1<<40, 6, []byte{1, 0, 0, 0, 0, 0})
	put(t, nil, 1<<32-1, 4, []byte{255, 255, 255, 255})
	put(t, nil, 1<<63, 8, []byte{0x80, 0, 0, 0, 0, 0, 0, 0})
	put(t, nil, math.MaxUint64, 8, bytes.Repeat([]byte{255}, 8))
	put(t, []byte("x"), 'y', 1, []byte("xy"))
	put(t, []byte("LEVR"), 1, 1, []byte("LEVR\x01"))
	put(t, []byte("x"), 7, 0, []byte("x"))
}

func TestPutOfEachSize(t *testing.T) {
	put(t, nil, rising, 0, nil)
	put(t, nil, rising, 1, []byte{8})
	put(t, nil, rising, 2, []byte{7, 8})
	put(t, nil, rising, 3, []byte{6, 7, 8})
	put(t, nil, rising, 4, []byte{5, 6, 7, 8})
	put(t, nil, rising, 5, []byte{4, 5, 6, 7, 8})
	put(t, nil, rising, 6, []byte{3, 4, 5, 6, 7, 8})
	put(t, nil, rising, 7, []byte{2, 3, 4, 5, 6, 7, 8})
	put(t, nil, rising, 8, []byte{1, 2, 3, 4, 5, 6, 7, 8})
}

// Each byte of a number may be any, whatever the others are.
func TestPutOfEachByte(t *testing.T) {
	for place := range 8 {
		for x := range uint64(256) {
			for size := range 9 {
				n := x << (8 * place)
				put(t, nil, n, size, lowest(n, size))
				put(t, []byte("ab"), ^n, size, slices.Concat([]byte("ab"), lowest(^n, size)))
			}
		}
	}
}

func TestPutOfDrawnNumbers(t *testing.T) {
	r := rand.New(rand.NewSource(1))
	for range 20000 {
		n, size := r.Uint64()>>r.Intn(64), r.Intn(9)
		b := drawn(r, r.Intn(20))
		put(t, b, n, size, slices.Concat(b, lowest(n, size)))
	}
}

// P17.1: Name, of bytes.

func TestNameByHand(t *testing.T) {
	name(t, nil, "", []byte{0})
	name(t, nil, "W", []byte{1, 'W'})
	name(t, nil, "ab", []byte("\x02ab"))
	name(t, []byte{}, "P1", []byte("\x02P1"))
	name(t, []byte("x"), "", []byte("x\x00"))
	name(t, []byte("x"), "abcdefgh", []byte("x\x08abcdefgh"))
	name(t, nil, "a b\n", []byte("\x04a b\n"))
}

func TestNameOfEachLength(t *testing.T) {
	for n := range 256 {
		s := strings.Repeat("n", n)
		name(t, nil, s, slices.Concat([]byte{byte(n)}, []byte(s)))
		name(t, []byte{7, 8, 9}, s, slices.Concat([]byte{7, 8, 9, byte(n)}, []byte(s)))
	}
}

// A text is as long as it has bytes, and each of them may be any.
func TestNameOfAnyBytes(t *testing.T) {
	name(t, nil, "\u00e9", []byte{2, 0xc3, 0xa9})
	name(t, nil, "\u20ac1", []byte{4, 0xe2, 0x82, 0xac, '1'})
	name(t, nil, "\x00", []byte{1, 0})
	name(t, nil, "\xff\xfe", []byte{2, 0xff, 0xfe})
	name(t, nil, "\xe2\x82", []byte{2, 0xe2, 0x82})
	for x := range 256 {
		b := []byte{byte(x), 'm', byte(255 - x)}
		name(t, nil, string(b), slices.Concat([]byte{3}, b))
	}
}

func TestNameOfDrawnTexts(t *testing.T) {
	r := rand.New(rand.NewSource(2))
	for range 5000 {
		b, s := drawn(r, r.Intn(20)), drawn(r, r.Intn(256))
		name(t, b, string(s), slices.Concat(b, []byte{byte(len(s))}, s))
	}
}

// P17.1: Take.

func TestTakeByHand(t *testing.T) {
	takes(t, at([]byte{0, 1, 2}, 0), 3, 258)
	takes(t, at([]byte{0, 1, 2}, 0), 2, 1)
	takes(t, at([]byte{0, 1, 2}, 1), 2, 258)
	takes(t, at([]byte{0, 1, 2}, 1), 1, 1)
	takes(t, at([]byte{0, 1, 2}, 2), 1, 2)
	takes(t, at([]byte{0, 1, 2}, 0), 1, 0)
	takes(t, at([]byte{255}, 0), 1, 255)
	takes(t, at([]byte{1, 0}, 0), 2, 256)
	takes(t, at([]byte{255, 255}, 0), 2, 65535)
	takes(t, at([]byte{1, 0, 0, 0, 0}, 0), 5, 1<<32)
	takes(t, at([]byte{0x80, 0, 0, 0, 0, 0, 0, 0}, 0), 8, 1<<63)
	takes(t, at(bytes.Repeat([]byte{255}, 8), 0), 8, math.MaxUint64)
	takes(t, at(make([]byte, 8), 0), 8, 0)
}

func TestTakeOfEachSize(t *testing.T) {
	b := []byte{1, 2, 3, 4, 5, 6, 7, 8, 9}
	takes(t, at(b, 0), 0, 0)
	takes(t, at(b, 0), 1, 0x01)
	takes(t, at(b, 0), 2, 0x0102)
	takes(t, at(b, 0), 3, 0x010203)
	takes(t, at(b, 0), 4, 0x01020304)
	takes(t, at(b, 0), 5, 0x0102030405)
	takes(t, at(b, 0), 6, 0x010203040506)
	takes(t, at(b, 0), 7, 0x01020304050607)
	takes(t, at(b, 0), 8, rising)
	takes(t, at(b, 1), 8, 0x0203040506070809)
	takes(t, at(b, 9), 0, 0)
}

// One number is taken behind the other, and nothing is left at last.
func TestTakeOneBehindTheOther(t *testing.T) {
	c := at([]byte{9, 0, 1, 2, 1, 2, 3, 4, 5, 6, 7, 8}, 0)
	takes(t, c, 1, 9)
	takes(t, c, 0, 0)
	takes(t, c, 3, 258)
	takes(t, c, 8, rising)
	takes(t, c, 0, 0)
	lacks(t, c, 1)
	lacks(t, c, 0)
}

// So many bytes as there are, at each place: of each size just those are taken that fit.
func TestTakeAtEachPlace(t *testing.T) {
	r := rand.New(rand.NewSource(3))
	for long := range 20 {
		b := drawn(r, long)
		for place := -3; place < long+4; place++ {
			for size := range 9 {
				if place < 0 || place+size > long {
					lacks(t, at(b, place), size)
					continue
				}
				takes(t, at(b, place), size, worth(b[place:place+size]))
			}
		}
	}
}

func TestTakeOfEachByte(t *testing.T) {
	for place := range 8 {
		for x := range uint64(256) {
			b := make([]byte, 8)
			b[place] = byte(x)
			takes(t, at(b, 0), 8, x<<(56-8*place))
			takes(t, at(b, place), 1, x)
		}
	}
}

// At the end nothing is left, which is still as much as 0 bytes; beyond it not even these are.
func TestTakeAtTheEnd(t *testing.T) {
	for _, b := range [][]byte{nil, {}, {1}, []byte("LEVR")} {
		takes(t, at(b, len(b)), 0, 0)
		lacks(t, at(b, len(b)), 1)
		lacks(t, at(b, len(b)), 8)
		lacks(t, at(b, len(b)+1), 0)
		lacks(t, at(b, len(b)+1), 1)
		lacks(t, at(b, most), 0)
	}
}

// A cursor may be anywhere, and asked for any size: where it is nowhere, or too little is left, it is Bad, and stays.
func TestTakeAnywhere(t *testing.T) {
	b := []byte{1, 2, 3}
	sizes := []int{least, least + 1, -9, -4, -3, -2, -1, 0, 1, 2, 3, 4, 8, 9, 255, 256, most - 3, most - 2, most - 1, most}
	for _, size := range sizes {
		for _, place := range []int{least, least + 1, least + 3, least + 8, -256, -9, -8, -3, -2, -1, 4, 5, 6, 11, 256, most - 8, most - 3, most - 1, most} {
			lacks(t, at(b, place), size)
			lacks(t, at(nil, place), size)
		}
	}
	for place := range 4 {
		for size := 4 - place; size < 20; size++ {
			lacks(t, at(b, place), size)
		}
		for _, size := range []int{1 << 32, 1<<32 + 1, most - 3, most - 2, most - 1, most} {
			lacks(t, at(b, place), size)
		}
	}
}

// P17.1: Name, of a cursor.

func TestCursorsNameByHand(t *testing.T) {
	reads(t, at([]byte("\x02ab"), 0), "ab")
	reads(t, at([]byte("\x02abc"), 0), "ab")
	reads(t, at([]byte("x\x02ab"), 1), "ab")
	reads(t, at([]byte{0}, 0), "")
	reads(t, at([]byte{0, 'a'}, 0), "")
	reads(t, at([]byte{1, 0}, 0), "\x00")
	reads(t, at([]byte{1, 1, 1}, 1), "\x01")
	misses(t, at([]byte{5, 'a'}, 0))
	misses(t, at([]byte{1}, 0))
	misses(t, at([]byte("\x03ab"), 0))
	misses(t, at([]byte("x\x03ab"), 1))
	misses(t, at([]byte("\x02ab"), 3))
	misses(t, at(nil, 0))
	misses(t, at([]byte{}, 0))
}

// Each length that may be told, with as many bytes behind it, one more, and fewer.
func TestCursorsNameOfEachLength(t *testing.T) {
	r := rand.New(rand.NewSource(4))
	for told := range 256 {
		for _, left := range []int{0, 1, told / 2, told - 2, told - 1, told, told + 1, told + 2, 254, 255, 256, 300} {
			if left < 0 {
				continue
			}
			b := slices.Concat([]byte{7, 8, byte(told)}, drawn(r, left))
			if left < told {
				misses(t, at(b, 2))
				continue
			}
			reads(t, at(b, 2), string(b[3:3+told]))
		}
	}
}

func TestCursorsNameOfAnyBytes(t *testing.T) {
	reads(t, at([]byte{2, 0xc3, 0xa9}, 0), "\u00e9")
	reads(t, at([]byte{1, 0xc3, 0xa9}, 0), "\xc3")
	for x := range 256 {
		reads(t, at([]byte{2, byte(x), byte(255 - x), 1}, 0), string([]byte{byte(x), byte(255 - x)}))
	}
}

func TestCursorsNameAnywhere(t *testing.T) {
	for _, b := range [][]byte{nil, {}, {0}, {0, 0, 0}, {1, 1, 1}, {255, 255}} {
		for _, place := range []int{least, least + 1, least + 256, -257, -256, -2, -1, len(b), len(b) + 1, len(b) + 2, 300, most - 256, most - 255, most - 1, most} {
			misses(t, at(b, place))
		}
	}
}

// At each place the byte that lies there tells how long the text is.
func TestCursorsNameAtEachPlace(t *testing.T) {
	r := rand.New(rand.NewSource(5))
	for long := range 40 {
		b := drawn(r, long)
		for i := range b {
			b[i] %= 20
		}
		for place := range b {
			told := int(b[place])
			if place+1+told > long {
				misses(t, at(b, place))
				continue
			}
			reads(t, at(b, place), string(b[place+1:place+1+told]))
		}
	}
}

// P17.1: what is Bad stays so.

func TestBadStays(t *testing.T) {
	b := []byte{2, 'a', 'b', 1, 2, 3, 4, 5, 6, 7, 8}
	for _, place := range []int{least, -1, 0, 1, 3, 10, 11, 12, most} {
		for size := range 9 {
			lacks(t, &pack.Cur{B: b, At: place, Bad: true}, size)
			lacks(t, &pack.Cur{At: place, Bad: true}, size)
		}
		misses(t, &pack.Cur{B: b, At: place, Bad: true})
		misses(t, &pack.Cur{At: place, Bad: true})
	}
}

func TestNothingIsReadBehindWhatLacks(t *testing.T) {
	c := at([]byte{2, 'a', 'b'}, 0)
	lacks(t, c, 4)
	for size := range 9 {
		lacks(t, c, size)
	}
	misses(t, c)
	c = at([]byte{3, 'a', 'b'}, 0)
	misses(t, c)
	misses(t, c)
	for size := range 9 {
		lacks(t, c, size)
	}
	c = at([]byte{0}, -1)
	lacks(t, c, 0)
	misses(t, c)
}

// Since it stays where it was, what fits is there for who says that it isn't Bad.
func TestWhatLacksStaysAhead(t *testing.T) {
	c := at([]byte{3, 1, 2}, 0)
	misses(t, c)
	c.Bad = false
	lacks(t, c, 4)
	c.Bad = false
	takes(t, c, 1, 3)
	lacks(t, c, 3)
	c.Bad = false
	reads(t, c, "\x02")
	lacks(t, c, 1)
}

// P17.2: what is put is taken as it was.

func TestEachSizeThereAndBack(t *testing.T) {
	r := rand.New(rand.NewSource(6))
	for size := range 9 {
		top := uint64(1)<<(8*size) - 1
		for _, n := range []uint64{0, 1, top / 2, top/2 + 1, top - 1, top, rising & top, r.Uint64() & top} {
			n &= top
			b := pack.Put([]byte("ahead"), n, size)
			c := at(b, 5)
			takes(t, c, size, n)
			lacks(t, c, 1)
		}
	}
}

func TestAllTwoBytesThereAndBack(t *testing.T) {
	for n := range uint64(65536) {
		if c := at(pack.Put(nil, n, 2), 0); c.Take(2) != n || c.At != 2 || c.Bad {
			t.Errorf("%d isn't taken as it was", n)
		}
	}
}

func TestAllLengthsThereAndBack(t *testing.T) {
	r := rand.New(rand.NewSource(7))
	for n := range 256 {
		s := string(drawn(r, n))
		c := at(pack.Name([]byte("ahead"), s), 5)
		reads(t, c, s)
		takes(t, c, 0, 0)
		lacks(t, c, 1)
	}
}

// piece is a number, or a text, that is put.
type piece struct {
	text string
	n    uint64
	size int
	name bool
}

// pieces draws some, and gives their bytes, and where each one ends.
func pieces(r *rand.Rand, count int) ([]piece, []byte, []int) {
	var all []piece
	var b []byte
	var ends []int
	for range count {
		p := piece{name: r.Intn(3) == 0, size: r.Intn(9)}
		if p.name {
			p.text = string(drawn(r, r.Intn(6)))
			b = pack.Name(b, p.text)
		} else {
			p.n = r.Uint64() >> r.Intn(64) & (uint64(1)<<(8*p.size) - 1)
			b = pack.Put(b, p.n, p.size)
		}
		all, ends = append(all, p), append(ends, len(b))
	}
	return all, b, ends
}

func TestManyThereAndBack(t *testing.T) {
	r := rand.New(rand.NewSource(8))
	for range 2000 {
		all, b, _ := pieces(r, r.Intn(30))
		c := at(b, 0)
		for _, p := range all {
			if p.name {
				reads(t, c, p.text)
				continue
			}
			takes(t, c, p.size, p.n)
		}
		takes(t, c, 0, 0)
		lacks(t, c, 1)
	}
}

// Wherever the bytes are cut, all pieces ahead are there, and none from there on.
func TestCutAnywhere(t *testing.T) {
	r := rand.New(rand.NewSource(9))
	for range 100 {
		all, b, ends := pieces(r, 12)
		for long := range b {
			c := at(b[:long], 0)
			for i, p := range all {
				whole := !c.Bad && ends[i] <= long
				switch {
				case whole && p.name:
					reads(t, c, p.text)
				case whole:
					takes(t, c, p.size, p.n)
				case p.name:
					misses(t, c)
				default:
					lacks(t, c, p.size)
				}
			}
		}
	}
}

// Bytes that are taken and put again are the same, however they are parted.
func TestTakenAndPutAgain(t *testing.T) {
	r := rand.New(rand.NewSource(10))
	for range 2000 {
		b := drawn(r, r.Intn(60))
		c := at(b, 0)
		var again []byte
		for c.At < len(b) {
			size := min(r.Intn(9), len(b)-c.At)
			again = pack.Put(again, c.Take(size), size)
		}
		if c.Bad || !bytes.Equal(again, b) {
			t.Errorf("%x, taken and put again, is %x", b, again)
		}
	}
}

// What isn't asked for: no call panics, each ends, and nothing that was handed in is lost.

func TestOtherSizes(t *testing.T) {
	sizes := []int{least, least + 1, -1 << 32, -256, -9, -8, -1, 9, 10, 16, 255, 256, 1 << 32, 1 << 62, most - 1, most}
	for _, size := range sizes {
		for _, b := range [][]byte{nil, {1}, []byte("LEVR and more")} {
			if got := pack.Put(b, rising, size); !bytes.HasPrefix(got, b) {
				t.Errorf("Put(%x, %x, %d) = %x", b, rising, size, got)
			}
			c := at(b, 0)
			c.Take(size)
			if c.At < 0 || c.At > len(b) {
				t.Errorf("Take(%d) of %x went to %d", size, b, c.At)
			}
		}
	}
}

func TestTextsThatAreTooLong(t *testing.T) {
	for _, n := range []int{256, 257, 300, 511, 512, 513, 65536, 1 << 20} {
		if got := pack.Name([]byte("ahead"), strings.Repeat("n", n)); !bytes.HasPrefix(got, []byte("ahead")) {
			t.Errorf("Name of a text of %d bytes lost what was ahead", n)
		}
	}
}

func TestNoCursor(t *testing.T) {
	var c *pack.Cur
	for _, size := range []int{least, -1, 0, 1, 8, 9, most} {
		if got := c.Take(size); got != 0 {
			t.Errorf("Take(%d) of no cursor = %d", size, got)
		}
	}
	if got := c.Name(); got != "" {
		t.Errorf("Name of no cursor = %q", got)
	}
}

// What is handed in isn't changed, answers are new, nothing is kept, and many may call at once.

// spare gives bytes with room behind them, that is filled.
func spare(b []byte) []byte {
	n := len(b)
	b = slices.Concat(b, []byte("filled up, far enough for any number"))
	return b[:n:cap(b)]
}

// What lies in spare room isn't of the bytes.
func TestSpareRoomSaysNothing(t *testing.T) {
	put(t, spare(nil), 258, 3, []byte{0, 1, 2})
	put(t, spare([]byte("a")), 258, 3, []byte{'a', 0, 1, 2})
	put(t, spare([]byte("a")), 258, 0, []byte("a"))
	name(t, spare(nil), "ab", []byte("\x02ab"))
	name(t, spare([]byte("a")), "", []byte("a\x00"))
	lacks(t, at(spare(nil), 0), 1)
	lacks(t, at(spare([]byte("a")), 0), 2)
	lacks(t, at(spare([]byte("a")), 1), 1)
	lacks(t, at(spare([]byte("a")), 2), 0)
	misses(t, at(spare(nil), 0))
	misses(t, at(spare([]byte{1}), 0))
	misses(t, at(spare([]byte("\x03ab")), 0))
	reads(t, at(spare([]byte("\x02ab")), 0), "ab")
}

func TestWhatIsHandedInStaysAsItWas(t *testing.T) {
	for _, b := range [][]byte{spare(nil), spare([]byte("a")), spare([]byte{2, 'a', 'b', 0}), spare(drawn(rand.New(rand.NewSource(11)), 50))} {
		all := bytes.Clone(b[:cap(b)])
		for size := -1; size < 10; size++ {
			pack.Put(b, rising, size)
			for place := -1; place < len(b)+2; place++ {
				at(b, place).Take(size)
			}
		}
		pack.Name(b, "")
		pack.Name(b, "abc")
		pack.Name(b, strings.Repeat("n", 255))
		pack.Name(b, strings.Repeat("n", 256))
		for place := -1; place < len(b)+2; place++ {
			at(b, place).Name()
		}
		if !bytes.Equal(b[:cap(b)], all) {
			t.Errorf("bytes, or their spare room, were changed: %x, now %x", all, b[:cap(b)])
		}
	}
}

// alone holds that whoever changes an answer, its spare room too, changes neither what was handed in nor another answer.
func alone(t *testing.T, what string, b []byte, call func() []byte) {
	t.Helper()
	all := bytes.Clone(b[:cap(b)])
	one, two := call(), call()
	want := bytes.Clone(two)
	for i := range one[:cap(one)] {
		one[:cap(one)][i] ^= 0x55
	}
	if !bytes.Equal(b[:cap(b)], all) || !bytes.Equal(two, want) {
		t.Errorf("%s of %x shares its memory", what, all)
	}
}

func TestAnswersStandAlone(t *testing.T) {
	for _, b := range [][]byte{nil, spare(nil), {}, []byte("a"), spare([]byte("a")), spare(make([]byte, 30))} {
		for size := range 9 {
			alone(t, "Put", b, func() []byte { return pack.Put(b, rising, size) })
		}
		for _, n := range []int{0, 1, 8, 255} {
			alone(t, "Name", b, func() []byte { return pack.Name(b, strings.Repeat("n", n)) })
		}
	}
}

// Two may go on from the same bytes, and neither writes over the other.
func TestTwoFromTheSameBytes(t *testing.T) {
	b := pack.Name(pack.Put(nil, 258, 3), "ab")
	one := pack.Put(b, 1, 1)
	two := pack.Put(b, 2, 1)
	three := pack.Name(b, "c")
	if string(one) != "\x00\x01\x02\x02ab\x01" || string(two) != "\x00\x01\x02\x02ab\x02" || string(three) != "\x00\x01\x02\x02ab\x01c" {
		t.Errorf("%x, %x, %x from the same bytes", one, two, three)
	}
}

// A text that was read stays as it was, whatever becomes of the bytes.
func TestTextsStandAlone(t *testing.T) {
	b := []byte("\x03abc\x02de")
	c := at(b, 0)
	one, two := c.Name(), c.Name()
	clear(b)
	if one != "abc" || two != "de" {
		t.Errorf("%q, %q, when the bytes are others, want abc, de", one, two)
	}
}

// A cursor hangs on what it holds alone: a copy goes its own way, and another one of the same bytes, too.
func TestCursorsGoAlone(t *testing.T) {
	b := []byte{1, 2, 3, 2, 'a', 'b'}
	one, two := at(b, 0), at(b, 3)
	takes(t, one, 2, 258)
	three := *one
	reads(t, two, "ab")
	lacks(t, two, 1)
	takes(t, one, 1, 3)
	takes(t, &three, 1, 3)
	reads(t, one, "ab")
	lacks(t, &three, 8)
	stands(t, "one", one, b, 6, false)
	three.Bad, three.At = false, 1
	takes(t, &three, 4, 0x02030261)
}

// Other bytes may be laid under a cursor, and it may be set anywhere.
func TestCursorsThatAreSet(t *testing.T) {
	c := at([]byte{1, 2, 3}, 0)
	takes(t, c, 3, 0x010203)
	c.B = []byte{4, 5, 6, 7, 8}
	takes(t, c, 2, 0x0708)
	c.At = 1
	takes(t, c, 1, 5)
	c.B = c.B[:1]
	lacks(t, c, 0)
	c.B, c.At, c.Bad = []byte{1, 'x'}, 0, false
	reads(t, c, "x")
}

func TestCallsHangOnTheirArgumentsAlone(t *testing.T) {
	b := spare([]byte{0, 1, 2, 2, 'a', 'b'})
	var all sync.WaitGroup
	for range 8 {
		all.Go(func() {
			for range 200 {
				put(t, b, 258, 2, []byte{0, 1, 2, 2, 'a', 'b', 1, 2})
				name(t, b, "cd", []byte{0, 1, 2, 2, 'a', 'b', 2, 'c', 'd'})
				c := at(b, 0)
				takes(t, c, 3, 258)
				reads(t, c, "ab")
				lacks(t, c, 1)
				misses(t, c)
			}
		})
	}
	all.Wait()
}
