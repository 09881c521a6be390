package sha256

import (
	"bytes"
	standard "crypto/sha256"
	"math"
	"strings"
	"testing"

	"ipsecgate/wire"
)

var first = [8]uint32{0x6a09e667, 0xbb67ae85, 0x3c6ef372, 0xa54ff53a, 0x510e527f, 0x9b05688c, 0x1f83d9ab, 0x5be0cd19}

// sample returns n bytes that do not repeat after one block.
func sample(n int) []byte {
	b := make([]byte, n)
	for i := range b {
		b[i] = byte(i*167 + i/64*31 + 13)
	}
	return b
}

// spare returns b with spare capacity that is filled with a mark.
func spare(b []byte) []byte {
	return append(bytes.Clone(b), bytes.Repeat([]byte{0xa5}, 80)...)[:len(b)]
}

// checkSpare fails if b or its spare capacity is no longer as spare made it.
func checkSpare(t *testing.T, name string, b, want []byte) {
	t.Helper()
	if !bytes.Equal(b, want) || !bytes.Equal(b[len(b):len(b)+80], bytes.Repeat([]byte{0xa5}, 80)) {
		t.Errorf("%s: the argument of %d bytes became %x", name, len(want), b[:len(b)+80])
	}
}

// P8.1
func TestPad(t *testing.T) {
	zeros := func(n int) string { return strings.Repeat("00", n) }
	for _, c := range []struct {
		length int
		want   string
	}{
		{0, "80" + zeros(55) + "0000000000000000"},
		{1, "80" + zeros(54) + "0000000000000008"},
		{3, "80" + zeros(52) + "0000000000000018"},
		{54, "80" + zeros(1) + "00000000000001b0"},
		{55, "80" + "00000000000001b8"},
		{56, "80" + zeros(63) + "00000000000001c0"},
		{57, "80" + zeros(62) + "00000000000001c8"},
		{63, "80" + zeros(56) + "00000000000001f8"},
		{64, "80" + zeros(55) + "0000000000000200"},
		{119, "80" + "00000000000003b8"},
		{120, "80" + zeros(63) + "00000000000003c0"},
		{8192, "80" + zeros(55) + "0000000000010000"},
		{1 << 29, "80" + zeros(55) + "0000000100000000"},
		{1<<31 - 1, "80" + zeros(56) + "00000003fffffff8"},
		{0x0123456789abcdef, "80" + zeros(8) + "091a2b3c4d5e6f78"},
	} {
		if got := wire.Hex(Pad(c.length)); got != c.want {
			t.Errorf("Pad(%d) = %s, want %s", c.length, got, c.want)
		}
	}
}

// P8.1: the number of bits wraps around, that of bytes does not.
func TestPadWraps(t *testing.T) {
	for _, c := range []struct {
		length, zeros int
		bits          string
	}{
		{1<<60 - 1, 56, "7ffffffffffffff8"},
		{1 << 60, 55, "8000000000000000"},
		{1<<61 - 1, 56, "fffffffffffffff8"},
		{1 << 61, 55, "0000000000000000"},
		{1<<61 + 1, 54, "0000000000000008"},
		{1 << 62, 55, "0000000000000000"},
		{math.MaxInt - 8, 0, "ffffffffffffffb8"},
		{math.MaxInt - 7, 63, "ffffffffffffffc0"},
		{math.MaxInt, 56, "fffffffffffffff8"},
	} {
		if got, want := wire.Hex(Pad(c.length)), "80"+strings.Repeat("00", c.zeros)+c.bits; got != want {
			t.Errorf("Pad(%d) = %s, want %s", c.length, got, want)
		}
	}
}

// P8.1
func TestPadNegative(t *testing.T) {
	for _, length := range []int{-1, -8, -9, -10, -63, -64, -65, math.MinInt + 1, math.MinInt} {
		if got := Pad(length); len(got) != 0 {
			t.Errorf("Pad(%d) = %x", length, got)
		}
	}
}

// P8.1, P8.4: each length has the fewest zeros that make whole blocks.
func TestPadFillsBlocks(t *testing.T) {
	for n := range 700 {
		want := []byte{128}
		for (n+len(want))%64 != 56 {
			want = append(want, 0)
		}
		want = append(want, 0, 0, 0, 0, 0, 0, byte(n>>5), byte(n<<3))
		got := Pad(n)
		if !bytes.Equal(got, want) {
			t.Errorf("Pad(%d) = %x, want %x", n, got, want)
		}
		if (n+len(got))%64 != 0 {
			t.Errorf("%d bytes with Pad are %d", n, n+len(got))
		}
	}
}

// P8.2
func TestBlock(t *testing.T) {
	counted := make([]byte, 64)
	for i := range counted {
		counted[i] = byte(i)
	}
	const all = math.MaxUint32
	for _, c := range []struct {
		state [8]uint32
		block []byte
		want  [8]uint32
	}{
		{
			first,
			append([]byte("abc"), Pad(3)...),
			[8]uint32{0xba7816bf, 0x8f01cfea, 0x414140de, 0x5dae2223, 0xb00361a3, 0x96177a9c, 0xb410ff61, 0xf20015ad},
		},
		{
			[8]uint32{},
			make([]byte, 64),
			[8]uint32{0x7ca51614, 0x425c3ba8, 0xce54dd2f, 0xc2020ae7, 0xb6e574d1, 0x98136d0f, 0xae7e26cc, 0xbf0be7a6},
		},
		{
			[8]uint32{all, all, all, all, all, all, all, all},
			bytes.Repeat([]byte{255}, 64),
			[8]uint32{0x0598127a, 0xaf11706e, 0x77401fff, 0xd730c549, 0x0b84c867, 0xa98c6ca3, 0xd7f3c0f9, 0x06a78b79},
		},
		{
			[8]uint32{1, 2, 3, 4, 5, 6, 7, 8},
			counted,
			[8]uint32{0xd983df8e, 0x621f4578, 0x1f917871, 0x0bdcc9b3, 0x3044782b, 0xa13edb77, 0xfba54b2c, 0xd168eed7},
		},
		{
			[8]uint32{0x80000000, 0x7fffffff, 0x01234567, 0x89abcdef, 0xfedcba98, 0x76543210, 0xdeadbeef, 0xcafebabe},
			sample(64),
			[8]uint32{0x6423a797, 0x01c2dc4a, 0x7f063eed, 0x5a54024e, 0x85bd187f, 0x7faf49c1, 0x0621b999, 0x61c32ce8},
		},
	} {
		if got, ok := Block(c.state, c.block); got != c.want || !ok {
			t.Errorf("Block(%x, %x) = %x, %v, want %x", c.state, c.block, got, ok, c.want)
		}
	}
}

// P8.2: spare capacity does not make a short block long enough.
func TestBlockLength(t *testing.T) {
	for n := range 200 {
		b := spare(sample(n))
		if got, ok := Block(first, b); n != 64 && (got != [8]uint32{} || ok) {
			t.Errorf("Block of %d bytes = %x, %v", n, got, ok)
		}
		checkSpare(t, "Block", b, sample(n))
	}
	if got, ok := Block(first, nil); got != [8]uint32{} || ok {
		t.Errorf("Block of nothing = %x, %v", got, ok)
	}
	if got, ok := Block(first, make([]byte, 1<<16)); got != [8]uint32{} || ok {
		t.Errorf("Block of many blocks = %x, %v", got, ok)
	}
}

// P8.3
func TestSum(t *testing.T) {
	for _, c := range []struct{ text, want string }{
		{"", "e3b0c44298fc1c149afbf4c8996fb92427ae41e4649b934ca495991b7852b855"},
		{"abc", "ba7816bf8f01cfea414140de5dae2223b00361a396177a9cb410ff61f20015ad"},
		{
			"abcdbcdecdefdefgefghfghighijhijkijkljklmklmnlmnomnopnopq",
			"248d6a61d20638b8e5c026930c3e6039a33ce45964ff2167f6ecedd419db06c1",
		},
		{
			"abcdefghbcdefghicdefghijdefghijkefghijklfghijklmghijklmnhijklmnoijklmnopjklmnopqklmnopqrlmnopqrsmnopqrstnopqrstu",
			"cf5b16a778af8380036ce59e7b0492370b249b11e8f07a51afac45037afee9d1",
		},
		{strings.Repeat("a", 1000000), "cdc76e5c9914fb9281a1c7e284d73e67f1809a48a497200e046d39ccc7112cd0"},
	} {
		if got := wire.Hex(Sum([]byte(c.text))); got != c.want {
			t.Errorf("Sum of %.80q = %s, want %s", c.text, got, c.want)
		}
	}
}

// P8.3: all lengths up to some blocks, and the same with other bytes.
func TestSumLengths(t *testing.T) {
	for n := range 700 {
		for _, b := range [][]byte{sample(n), make([]byte, n), bytes.Repeat([]byte{255}, n)} {
			if got, want := Sum(b), standard.Sum256(b); !bytes.Equal(got, want[:]) {
				t.Errorf("Sum(%x) = %x, want %x", b, got, want)
			}
		}
	}
}

// P8.3: a hash of each hash takes every word through many values.
func TestSumOfSums(t *testing.T) {
	b := []byte{}
	for range 2000 {
		want := standard.Sum256(b)
		got := Sum(b)
		if !bytes.Equal(got, want[:]) {
			t.Fatalf("Sum(%x) = %x, want %x", b, got, want)
		}
		b = append(got, b[:len(b)/2]...)
	}
}

// P8.4: any number of blocks may be hashed ahead of the others.
func TestSumIsBlockByBlock(t *testing.T) {
	hash := func(state [8]uint32, b []byte) [8]uint32 {
		for ; len(b) > 0; b = b[64:] {
			next, ok := Block(state, b[:64])
			if !ok {
				t.Fatal("a block of 64 bytes is refused")
			}
			state = next
		}
		return state
	}
	for n := range 300 {
		all := append(sample(n), Pad(n)...)
		if len(all)%64 != 0 {
			t.Fatalf("%d bytes are padded to %d", n, len(all))
		}
		for cut := 0; cut <= len(all); cut += 64 {
			var got []byte
			for _, word := range hash(hash(first, all[:cut]), all[cut:]) {
				got = wire.Put(got, uint64(word), 4)
			}
			if !bytes.Equal(got, Sum(sample(n))) {
				t.Errorf("%d bytes, cut at %d: %x, want %x", n, cut, got, Sum(sample(n)))
			}
		}
	}
}

// P8.3, R3
func TestSumNil(t *testing.T) {
	if !bytes.Equal(Sum(nil), Sum([]byte{})) || len(Sum(nil)) != 32 {
		t.Errorf("Sum of nil = %x", Sum(nil))
	}
}

// R2: the message and its spare capacity, into which the padding would fit, stay as they are.
func TestSumLeavesArgument(t *testing.T) {
	for n := range 200 {
		b := spare(sample(n))
		got := Sum(b)
		clear(got)
		checkSpare(t, "Sum", b, sample(n))
	}
}

// R2: who changes a result changes no later one.
func TestResultsAreNew(t *testing.T) {
	for _, n := range []int{0, 55, 56, 64} {
		sum, pad := Sum(sample(n)), Pad(n)
		wantSum, wantPad := wire.Hex(sum), wire.Hex(pad)
		clear(sum[:cap(sum)])
		clear(pad[:cap(pad)])
		if got := wire.Hex(Sum(sample(n))); got != wantSum {
			t.Errorf("Sum of %d bytes became %s", n, got)
		}
		if got := wire.Hex(Pad(n)); got != wantPad {
			t.Errorf("Pad(%d) became %s", n, got)
		}
	}
	state := first
	Block(state, sample(64))
	if state != first {
		t.Errorf("the state became %x", state)
	}
}
