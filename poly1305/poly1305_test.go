package poly1305

import (
	"bytes"
	"math/big"
	"slices"
	"strings"
	"testing"

	"ipsecgate/api"
	"ipsecgate/wire"
)

const (
	zeros = "00000000000000000000000000000000" // half a key
	ones  = "ffffffffffffffffffffffffffffffff"
)

// most is the greatest r: all the bits that it may have.
const most = "ffffff0ffcffff0ffcffff0ffcffff0f"

// sample returns n bytes that differ by n and do not repeat after one block.
func sample(n int) []byte {
	b := make([]byte, n)
	for i := range b {
		b[i] = byte(i*167 + i/64*31 + n*7 + 13)
	}
	return b
}

// bytesOf returns the bytes of a text of wire.Hex.
func bytesOf(t *testing.T, text string) []byte {
	t.Helper()
	b, e := wire.Unhex(text)
	if e != api.OK {
		t.Fatalf("%s is not hexadecimal", text)
	}
	return b
}

// spare returns b with spare capacity that is filled with a mark.
func spare(b []byte) []byte {
	return append(bytes.Clone(b), bytes.Repeat([]byte{0xa5}, 80)...)[:len(b)]
}

// checkSpare fails if b or its spare capacity is no longer as spare made it.
func checkSpare(t *testing.T, name string, b, want []byte) {
	t.Helper()
	if !bytes.Equal(b, want) || !bytes.Equal(b[len(b):len(b)+80], bytes.Repeat([]byte{0xa5}, 80)) {
		t.Errorf("%s: the argument of %d bytes became %x", name, len(want), b[:len(b)+80])
	}
}

// check fails if Sum is not what the oracle computes.
func check(t *testing.T, key, b []byte) {
	t.Helper()
	if tag, ok := Sum(key, b); !bytes.Equal(tag, oracle(key, b)) || !ok {
		t.Errorf("Sum(%x, %x) = %x, %v, want %x", key, b, tag, ok, oracle(key, b))
	}
}

// power returns 2^n and d more.
func power(n uint, d int64) *big.Int {
	v := new(big.Int).Lsh(big.NewInt(1), n)
	return v.Add(v, big.NewInt(d))
}

// fromLow returns the number of b, the lowest byte first.
func fromLow(b []byte) *big.Int {
	b = bytes.Clone(b)
	slices.Reverse(b)
	return new(big.Int).SetBytes(b)
}

// toLow returns the lowest 16 bytes of v, the lowest one first.
func toLow(v *big.Int) []byte {
	b := new(big.Int).Mod(v, power(128, 0)).FillBytes(make([]byte, 16))
	slices.Reverse(b)
	return b
}

// factorOf returns r of a key.
func factorOf(key []byte) *big.Int {
	return new(big.Int).And(fromLow(key[:16]), new(big.Int).SetBytes([]byte{
		0x0f, 0xff, 0xff, 0xfc, 0x0f, 0xff, 0xff, 0xfc, 0x0f, 0xff, 0xff, 0xfc, 0x0f, 0xff, 0xff, 0xff,
	}))
}

// valueOf returns the value behind all the pieces of b.
func valueOf(key, b []byte) *big.Int {
	value := new(big.Int)
	for len(b) > 0 {
		n := min(16, len(b))
		value.Add(value, fromLow(b[:n]))
		value.Add(value, power(uint(8*n), 0))
		value.Mul(value, factorOf(key))
		value.Mod(value, power(130, -5))
		b = b[n:]
	}
	return value
}

// oracle computes the tag with numbers of any size.
func oracle(key, b []byte) []byte {
	value := valueOf(key, b)
	return toLow(value.Add(value, fromLow(key[16:])))
}

// towards returns b and a piece that makes the value v; false if none does.
func towards(key, b []byte, v *big.Int) ([]byte, bool) {
	modulus := power(130, -5)
	m := new(big.Int).ModInverse(factorOf(key), modulus)
	m.Mul(m, v).Sub(m, valueOf(key, b)).Mod(m, modulus)
	if m.Cmp(power(128, 0)) < 0 || m.Cmp(power(129, 0)) >= 0 {
		return nil, false
	}
	return append(bytes.Clone(b), toLow(m)...), true
}

// P11.1: the example, which is the first vector of RFC 8439, and the others of its appendix.
func TestVectors(t *testing.T) {
	group := "Cryptographic Forum Research Group"
	text := "Any submission to the IETF intended by the Contributor for publication as all or part of an IETF Internet-Draft or RFC and any" +
		" statement made within the context of an IETF activity is considered an \"IETF Contribution\". Such statements include oral statements" +
		" in IETF sessions, as well as written and electronic communications made at any time or place, which are addressed to"
	poem := "'Twas brillig, and the slithy toves\nDid gyre and gimble in the wabe:\nAll mimsy were the borogoves,\nAnd the mome raths outgrabe."
	const two = "02000000000000000000000000000000"
	const one = "01000000000000000000000000000000"
	const four = "01000000000000000400000000000000"
	carry := "e33594d7505e43b900000000000000003394d7505e4379cd01000000000000000000000000000000000000000000000001000000000000000000000000000000"
	for i, c := range []struct{ r, s, message, want string }{
		{"85d6be7857556d337f4452fe42d506a8", "0103808afb0db2fd4abff6af4149f51b", wire.Hex([]byte(group)), "a8061dc1305136c6c22b8baf0c0127a9"},
		{zeros, zeros, strings.Repeat(zeros, 4), zeros},
		{zeros, "36e5f6b5c5e06070f0efca96227a863e", wire.Hex([]byte(text)), "36e5f6b5c5e06070f0efca96227a863e"},
		{"36e5f6b5c5e06070f0efca96227a863e", zeros, wire.Hex([]byte(text)), "f3477e7cd95417af89a6b8794c310cf0"},
		{"1c9240a5eb55d38af333888604f6b5f0", "473917c1402b80099dca5cbc207075c0", wire.Hex([]byte(poem)), "4541669a7eaaee61e708dc7cbcc5eb62"},
		{two, zeros, ones, "03000000000000000000000000000000"},
		{two, ones, two, "03000000000000000000000000000000"},
		{one, zeros, ones + "f0" + ones[2:] + "11" + zeros[2:], "05000000000000000000000000000000"},
		{one, zeros, ones + "fb" + strings.Repeat("fe", 15) + strings.Repeat("01", 16), zeros},
		{two, zeros, "fd" + ones[2:], "fa" + ones[2:]},
		{four, zeros, carry, "14000000000000005500000000000000"},
		{four, zeros, carry[:96], "13000000000000000000000000000000"},
	} {
		if tag, ok := Sum(bytesOf(t, c.r+c.s), bytesOf(t, c.message)); wire.Hex(tag) != c.want || !ok {
			t.Errorf("%d: Sum = %x, %v, want %s", i, tag, ok, c.want)
		}
	}
}

// P11.1: tags that OpenSSL computed.
func TestOthers(t *testing.T) {
	for n, want := range map[int]string{
		0:     "5d04ab52f9a047ee953ce38a31d87f26",
		1:     "e693e7ba9bf347ee7553bbcf3cc71caf",
		15:    "f3de5ae9dfa185b41931b9a32ab0541b",
		16:    "f6d2d4fc1e41193d8d023921a6541350",
		17:    "d1e61b876b22da6a4968bbdd38dbe85b",
		31:    "1c5154546762e99ca4cf66eec0e5db91",
		32:    "3505eabc82ecfba97bc931a76aaf47af",
		33:    "71feada5eb2896daee4ea1b254b754ff",
		64:    "8efc1709104c49f7dd901d3b623ea3db",
		1000:  "ed3e5e2125a3e948182b5b7d087a6c7e",
		70000: "cc1d20c3d86d783eda9804f4bec01b76",
	} {
		if tag, ok := Sum(sample(32), sample(n)); wire.Hex(tag) != want || !ok {
			t.Errorf("Sum of %d bytes = %x, %v, want %s", n, tag, ok, want)
		}
	}
	for n, want := range map[int]string{
		0:    ones,
		1:    "23feffef23f8ffef23f8ffef23f8ffef",
		15:   "fbff27e6030028e6030028e6030028ee",
		16:   "fbffff17faffff17faffff17faffff17",
		17:   "7cfe7ff768f81f2763f8bf565df85f86",
		32:   "5400801f3f00204f3900c07e330060ae",
		255:  "c80cb43844f387946e5aa6085bdf67da",
		4096: "2827279b4c1d3e6b93286238199e131a",
	} {
		if tag, ok := Sum(bytesOf(t, ones+ones), bytes.Repeat([]byte{255}, n)); wire.Hex(tag) != want || !ok {
			t.Errorf("Sum of %d bytes 255 = %x, %v, want %s", n, tag, ok, want)
		}
	}
}

// P11.1: all lengths up to some pieces, of different bytes and of the least and the greatest ones.
func TestLengths(t *testing.T) {
	for _, key := range [][]byte{sample(32), bytesOf(t, ones+ones), bytesOf(t, most+zeros), bytesOf(t, "01"+zeros[2:]+ones)} {
		for n := range 300 {
			for _, b := range [][]byte{sample(n), make([]byte, n), bytes.Repeat([]byte{255}, n)} {
				check(t, key, b)
			}
		}
	}
}

// P11.1: each bit of the key, of a piece and of what is behind it has its place.
func TestBits(t *testing.T) {
	for bit := range 256 {
		key := make([]byte, 32)
		key[bit/8] = 1 << (bit % 8)
		check(t, key, sample(40))
		check(t, key, bytes.Repeat([]byte{255}, 48))
		key = bytes.Repeat([]byte{255}, 32)
		key[bit/8] -= 1 << (bit % 8)
		check(t, key, sample(40))
		check(t, key, bytes.Repeat([]byte{255}, 48))
	}
	for n := 1; n <= 34; n++ {
		for bit := range 8 * n {
			b := make([]byte, n)
			b[bit/8] = 1 << (bit % 8)
			check(t, bytesOf(t, "01"+zeros[2:]+zeros), b)
			check(t, bytesOf(t, most+ones), b)
		}
	}
}

// P11.1: r does not have the highest four bits of four bytes and the lowest two of three, and has all others.
func TestClearedBits(t *testing.T) {
	cleared := map[int]byte{3: 0xf0, 7: 0xf0, 11: 0xf0, 15: 0xf0, 4: 3, 8: 3, 12: 3}
	for bit := range 128 {
		key := sample(32)
		want, _ := Sum(key, sample(20))
		key[bit/8] ^= 1 << (bit % 8)
		tag, ok := Sum(key, sample(20))
		if gone := cleared[bit/8]>>(bit%8)&1 == 1; bytes.Equal(tag, want) != gone || !ok {
			t.Errorf("with bit %d of byte %d changed: %x, %v, before %x", bit%8, bit/8, tag, ok, want)
		}
	}
	want, _ := Sum(bytesOf(t, most+zeros), sample(100))
	if tag, ok := Sum(bytesOf(t, ones+zeros), sample(100)); !bytes.Equal(tag, want) || !ok {
		t.Errorf("with all bits: %x, %v, want %x", tag, ok, want)
	}
}

// cut returns full pieces with the sum v; false if there are none.
func cut(v *big.Int, pieces int64) ([]byte, bool) {
	left := new(big.Int).Sub(v, new(big.Int).Mul(power(128, 0), big.NewInt(pieces)))
	var b []byte
	for k := pieces; k > 0; k-- {
		m := new(big.Int).Div(left, big.NewInt(k))
		if m.Sign() < 0 || m.Cmp(power(128, 0)) >= 0 {
			return nil, false
		}
		b = append(b, toLow(m)...)
		left.Sub(left, m)
	}
	return b, true
}

// P11.1: sums of pieces, which r = 1 leaves as they are, around the modulus, 2^130 and twice of both.
func TestAroundModulus(t *testing.T) {
	for _, c := range []struct {
		pieces   int64
		base     *big.Int
		from, to int64
	}{
		{3, power(130, 0), -40, 40},
		{4, power(130, 0), 0, 40},
		{4, power(131, 0), -40, -4},
		{5, power(131, 0), -40, 40},
		{7, power(131, 0), -40, 40},
	} {
		for d := c.from; d <= c.to; d++ {
			b, ok := cut(new(big.Int).Add(c.base, big.NewInt(d)), c.pieces)
			if !ok {
				t.Fatalf("%d pieces have no such sum", c.pieces)
			}
			for _, s := range []string{zeros, ones, "01" + zeros[2:], "05" + zeros[2:], "fb" + ones[2:]} {
				check(t, bytesOf(t, "01"+zeros[2:]+s), b)
			}
		}
	}
}

// P11.1: the least and the greatest values behind a piece, and those at the borders of limbs and bytes, for several r.
func TestValues(t *testing.T) {
	var targets []*big.Int
	for d := int64(0); d < 40; d++ {
		targets = append(targets, power(130, -6-d), big.NewInt(d))
	}
	for n := uint(8); n < 130; n++ {
		targets = append(targets, power(n, 0), power(n, -1), new(big.Int).Sub(power(130, -5), power(n, 0)))
	}
	reached := 0
	for _, r := range []string{most, "85d6be7857556d337f4452fe42d506a8", "03" + zeros[2:], zeros[:30] + "08"} {
		for _, v := range targets {
			for _, first := range [][]byte{nil, sample(16), sample(48), bytes.Repeat([]byte{255}, 32)} {
				b, ok := towards(bytesOf(t, r+zeros), first, v)
				if !ok {
					continue
				}
				reached++
				if got := valueOf(bytesOf(t, r+zeros), b); got.Cmp(v) != 0 {
					t.Fatalf("the pieces make %v, not %v", got, v)
				}
				for _, s := range []string{zeros, ones, "01" + zeros[2:]} {
					check(t, bytesOf(t, r+s), b)
					check(t, bytesOf(t, r+s), append(bytes.Clone(b), ones...))
				}
			}
		}
	}
	if reached < 500 {
		t.Errorf("only %d values were reached", reached)
	}
}

// P11.1: a long way of greatest values, so that the limbs are as great as they become.
func TestGreatValues(t *testing.T) {
	key := bytesOf(t, most+ones)
	var b []byte
	for range 60 {
		for d := int64(0); ; d++ {
			if next, ok := towards(key, b, power(130, -6-d)); ok {
				b = next
				break
			}
		}
		check(t, key, b)
		check(t, key, append(bytes.Clone(b), bytes.Repeat([]byte{255}, 160)...))
	}
}

// P11.1: a tag that is made of other ones takes every limb through many values.
func TestSumOfSums(t *testing.T) {
	b := sample(96)
	for i := range 3000 {
		key, text := b[:32], b[32:96-i%17]
		tag, ok := Sum(key, text)
		if want := oracle(key, text); !bytes.Equal(tag, want) || !ok {
			t.Fatalf("Sum(%x, %x) = %x, %v, want %x", key, text, tag, ok, want)
		}
		b = append(bytes.Clone(b[16:]), tag...)
	}
}

// P11.1: the sum with s is modulo 2^128, with carries through all bytes.
func TestSumWraps(t *testing.T) {
	for n := range 16 {
		for _, s := range []string{ones, ones[:2*n] + zeros[2*n:], zeros[:2*n] + ones[2*n:]} {
			for _, b := range [][]byte{{1}, {0}, {255, 255}, sample(16), bytes.Repeat([]byte{255}, 16)} {
				check(t, bytesOf(t, "01"+zeros[2:]+s), b)
			}
		}
	}
	// 1 + 2^8 + 2^128 - 1 is 2^8 modulo 2^128.
	if tag, ok := Sum(bytesOf(t, "01"+zeros[2:]+ones), []byte{1}); wire.Hex(tag) != "0001"+zeros[4:] || !ok {
		t.Errorf("Sum = %x, %v", tag, ok)
	}
}

// P11.1: without a piece the value is 0, whatever r is.
func TestNothing(t *testing.T) {
	for _, r := range []string{zeros, ones, most} {
		for _, b := range [][]byte{nil, {}, sample(100)[:0]} {
			key := append(bytesOf(t, r), sample(16)...)
			if tag, ok := Sum(key, b); !bytes.Equal(tag, sample(16)) || !ok {
				t.Errorf("Sum(%x, nothing) = %x, %v", key, tag, ok)
			}
		}
	}
}

// P11.1: bytes 0 behind the others count, also in a piece that is not full.
func TestZerosCount(t *testing.T) {
	seen := map[string]int{}
	for n := range 100 {
		tag, _ := Sum(sample(32), make([]byte, n))
		if k, twice := seen[string(tag)]; twice {
			t.Errorf("%d and %d bytes 0 have the tag %x", k, n, tag)
		}
		seen[string(tag)] = n
	}
}

// P11.1: keys of other lengths are refused, whatever else is right, and spare capacity does not count.
func TestKeyLengths(t *testing.T) {
	lengths := []int{32 + 256, 32 + 1<<16, 1 << 17}
	for n := range 200 {
		lengths = append(lengths, n)
	}
	for _, n := range lengths {
		key, right := spare(sample(n)), n == 32
		for _, b := range [][]byte{nil, {}, {1}, sample(16), sample(100)} {
			tag, ok := Sum(key, b)
			if ok != right || !right && len(tag) != 0 || right && len(tag) != 16 {
				t.Errorf("Sum of %d bytes under a key of %d = %x, %v", len(b), n, tag, ok)
			}
		}
		checkSpare(t, "key", key, sample(n))
	}
	if tag, ok := Sum(nil, sample(32)); len(tag) != 0 || ok {
		t.Errorf("Sum without a key = %x, %v", tag, ok)
	}
}

// P11.2: with r = 0, also one of cleared bits alone, the tag is s.
func TestZeroFactor(t *testing.T) {
	for _, r := range []string{zeros, "000000f0030000f0030000f0030000f0", "000000f00200001001000080030000f0"} {
		for n := range 70 {
			key := append(bytesOf(t, r), sample(16)...)
			if tag, ok := Sum(key, sample(n)); !bytes.Equal(tag, sample(16)) || !ok {
				t.Errorf("Sum(%x, %x) = %x, %v", key, sample(n), tag, ok)
			}
		}
	}
}

// P11.2: one piece, by the formula.
func TestOnePiece(t *testing.T) {
	for n := 1; n <= 16; n++ {
		for _, key := range [][]byte{sample(32), bytesOf(t, ones+ones), bytesOf(t, most+zeros)} {
			v := new(big.Int).Add(fromLow(sample(n)), power(uint(8*n), 0))
			v.Mul(v, factorOf(key)).Mod(v, power(130, -5)).Add(v, fromLow(key[16:]))
			if tag, ok := Sum(key, sample(n)); !bytes.Equal(tag, toLow(v)) || !ok {
				t.Errorf("Sum(%x, %x) = %x, %v, want %x", key, sample(n), tag, ok, toLow(v))
			}
		}
	}
}

// R2: arguments and their spare capacity stay as they are, whatever is done with the result.
func TestArgumentsStay(t *testing.T) {
	for n := range 150 {
		key, b := spare(sample(32)), spare(sample(n))
		tag, _ := Sum(key, b)
		if !bytes.Equal(tag, oracle(sample(32), sample(n))) {
			t.Errorf("Sum of %d bytes with spare capacity = %x", n, tag)
		}
		clear(tag[:cap(tag)])
		checkSpare(t, "key", key, sample(32))
		checkSpare(t, "bytes", b, sample(n))
	}
	// The key may be a part of the bytes.
	b := sample(80)
	if tag, ok := Sum(b[8:40], b); !bytes.Equal(tag, oracle(b[8:40], b)) || !ok || !bytes.Equal(b, sample(80)) {
		t.Errorf("Sum of bytes with their key = %x, %v", tag, ok)
	}
}

// R2: who changes a result changes no later one.
func TestResultsAreNew(t *testing.T) {
	for _, n := range []int{0, 1, 16, 50} {
		tag, _ := Sum(sample(32), sample(n))
		clear(tag[:cap(tag)])
		check(t, sample(32), sample(n))
	}
}
