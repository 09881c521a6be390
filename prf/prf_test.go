package prf

import (
	"bytes"
	"crypto/hmac"
	standard "crypto/sha256"
	"fmt"
	"math"
	"strings"
	"testing"

	"ipsecgate/api"
	"ipsecgate/sha256"
	"ipsecgate/wire"
)

// longest is the greatest number of bytes that Plus returns.
const longest = 255 * 32

// sample returns n bytes that differ by n and do not repeat after one block.
func sample(n int) []byte {
	b := make([]byte, n)
	for i := range b {
		b[i] = byte(i*167 + i/64*31 + n*7 + 13)
	}
	return b
}

// spare returns b with spare capacity that is filled with a mark.
func spare(b []byte) []byte {
	return append(bytes.Clone(b), bytes.Repeat([]byte{0xa5}, 80)...)[:len(b)]
}

// checkSpare fails if b or its spare capacity is no longer as spare made it.
func checkSpare(t *testing.T, name string, b, want []byte) {
	t.Helper()
	if !bytes.Equal(b, want) || !bytes.Equal(b[len(b):len(b)+80], bytes.Repeat([]byte{0xa5}, 80)) {
		t.Errorf("%s: the argument of %d bytes became %x", name, len(want), b[:len(b)+80])
	}
}

// oracle returns the keyed hash as the standard library computes it.
func oracle(key []byte, parts ...[]byte) []byte {
	h := hmac.New(standard.New, key)
	for _, p := range parts {
		h.Write(p)
	}
	return h.Sum(nil)
}

// stream returns all bytes of Plus by the rule of P9.2, from the oracle.
func stream(key, seed []byte) []byte {
	var all, last []byte
	for i := 1; i <= 255; i++ {
		last = oracle(key, last, seed, []byte{byte(i)})
		all = append(all, last...)
	}
	return all
}

// P9.1: the example, and the vectors of RFC 4231.
func TestHmac(t *testing.T) {
	counted, _ := wire.Unhex("0102030405060708090a0b0c0d0e0f10111213141516171819")
	for _, c := range []struct{ key, text, want string }{
		{"Jefe", "what do ya want for nothing?", "5bdcc146bf60754e6a042426089575c75a003f089d2739839dec58b964ec3843"},
		{strings.Repeat("\x0b", 20), "Hi There", "b0344c61d8db38535ca8afceaf0bf12b881dc200c9833da726e9376c2e32cff7"},
		{
			strings.Repeat("\xaa", 20), strings.Repeat("\xdd", 50),
			"773ea91e36800e46854db8ebd09181a72959098b3ef8c122d9635514ced565fe",
		},
		{
			string(counted), strings.Repeat("\xcd", 50),
			"82558a389a443c0ea4cc819899f2083a85f0faa3e578f8077a2e3ff46729665b",
		},
		{
			strings.Repeat("\xaa", 131), "Test Using Larger Than Block-Size Key - Hash Key First",
			"60e431591ee0b67f0d8a26aacbf5b77f8e0bc6213728c5140546040f0ee37f54",
		},
		{
			strings.Repeat("\xaa", 131),
			"This is a test using a larger than block-size key and a larger than block-size data. " +
				"The key needs to be hashed before being used by the HMAC algorithm.",
			"9b09ffa71b942fcb27635fbcd5b0e944bfdc63644f0713938a7f51535c3a35e2",
		},
		{"", "", "b613679a0814d9ec772f95d778c35fc5ff1697c493715653c6c712144292c5ad"},
	} {
		if got := wire.Hex(Hmac([]byte(c.key), []byte(c.text))); got != c.want {
			t.Errorf("Hmac(%q, %q) = %s, want %s", c.key, c.text, got, c.want)
		}
	}
}

// P9.1: keys and messages of all lengths around the blocks.
func TestHmacLengths(t *testing.T) {
	for k := range 200 {
		for _, n := range []int{0, 1, 31, 32, 55, 56, 63, 64, 65, 119, 120, 128, 300} {
			key, b := sample(k), sample(n)
			if got, want := Hmac(key, b), oracle(key, b); !bytes.Equal(got, want) {
				t.Errorf("Hmac(%x, %x) = %x, want %x", key, b, got, want)
			}
		}
	}
	for n := range 300 {
		key, b := sample(20), sample(n)
		if got, want := Hmac(key, b), oracle(key, b); !bytes.Equal(got, want) {
			t.Errorf("Hmac(%x, %x) = %x, want %x", key, b, got, want)
		}
	}
}

// P9.1: a key is hashed if it has more than 64 bytes, and only then.
func TestHmacLongKeys(t *testing.T) {
	for k := range 140 {
		key, b := sample(k), []byte("x")
		same := wire.Equal(Hmac(key, b), Hmac(sha256.Sum(key), b))
		if same != (k > 64) {
			t.Errorf("a key of %d bytes has the hash of its hash: %v", k, same)
		}
	}
}

// P9.1: zeros behind a key do not matter, up to 64 bytes; others do.
func TestHmacPadsKeys(t *testing.T) {
	b := sample(40)
	for k := range 65 {
		key := sample(k)
		full := append(bytes.Clone(key), make([]byte, 64-k)...)
		if !wire.Equal(Hmac(key, b), Hmac(full, b)) {
			t.Errorf("a key of %d bytes differs from itself with zeros", k)
		}
		if wire.Equal(Hmac(key, b), Hmac(append(full, 0), b)) {
			t.Errorf("a key of %d bytes is the same with zeros up to 65", k)
		}
		if k < 64 && wire.Equal(Hmac(key, b), Hmac(append(bytes.Clone(key), 1), b)) {
			t.Errorf("a key of %d bytes is the same with 1 behind it", k)
		}
	}
}

// P9.1: the definition by sha256.Sum.
func TestHmacDefinition(t *testing.T) {
	key, b := sample(64), sample(100)
	var inner, outer []byte
	for _, x := range key {
		inner, outer = append(inner, x^54), append(outer, x^92)
	}
	if want := sha256.Sum(append(outer, sha256.Sum(append(inner, b...))...)); !wire.Equal(Hmac(key, b), want) {
		t.Errorf("Hmac = %x, want %x", Hmac(key, b), want)
	}
}

// P9.2: all beginnings, of lengths around the hashes.
func TestPlus(t *testing.T) {
	for _, c := range []struct{ key, seed []byte }{
		{[]byte("key"), []byte("seed")},
		{nil, nil},
		{sample(64), nil},
		{nil, sample(33)},
		{sample(65), sample(200)},
		{sample(32), []byte{0}},
	} {
		all := stream(c.key, c.seed)
		for _, n := range []int{0, 1, 2, 31, 32, 33, 63, 64, 65, 95, 96, 97, 1000, 8127, 8128, 8129, 8159, 8160} {
			if b, e := Plus(c.key, c.seed, n); !bytes.Equal(b, all[:n]) || e != api.OK {
				t.Errorf("Plus(%x, %x, %d) = %x, %d, want %x", c.key, c.seed, n, b, e, all[:n])
			}
		}
	}
}

// P9.2: the first hashes, one by one.
func TestPlusDefinition(t *testing.T) {
	key, seed := sample(16), sample(10)
	first := Hmac(key, append(bytes.Clone(seed), 1))
	second := Hmac(key, append(append(bytes.Clone(first), seed...), 2))
	third := Hmac(key, append(append(bytes.Clone(second), seed...), 3))
	want := bytes.Join([][]byte{first, second, third}, nil)
	if b, e := Plus(key, seed, 96); !bytes.Equal(b, want) || e != api.OK {
		t.Errorf("Plus = %x, %d, want %x", b, e, want)
	}
}

// P9.2
func TestPlusRange(t *testing.T) {
	for _, n := range []int{math.MinInt, math.MinInt + 1, -8160, -32, -1, longest + 1, longest + 32, 256 * 32, 1 << 32, math.MaxInt} {
		if b, e := Plus(sample(5), sample(6), n); len(b) != 0 || e != api.ErrRange {
			t.Errorf("Plus(%d) = %d bytes, %d", n, len(b), e)
		}
	}
}

// P9.4: a shorter one is a beginning of a longer one, for each number of bytes.
func TestPlusIsBeginning(t *testing.T) {
	all, e := Plus(sample(32), sample(48), longest)
	if len(all) != longest || e != api.OK {
		t.Fatalf("the longest: %d bytes, %d", len(all), e)
	}
	for n := range 400 {
		if b, e := Plus(sample(32), sample(48), n); !bytes.Equal(b, all[:n]) || e != api.OK {
			t.Errorf("Plus(%d) = %x, %d", n, b, e)
		}
	}
}

// P9.3
func TestSplit(t *testing.T) {
	for _, c := range []struct {
		b     []byte
		sizes []int
		want  string
		ok    bool
	}{
		{[]byte{1, 2, 3, 4, 5}, []int{2, 0, 3}, "[[1 2] [] [3 4 5]]", true},
		{[]byte{1, 2, 3, 4, 5}, []int{2, 1}, "[[1 2] [3]]", true},
		{[]byte{1, 2, 3, 4, 5}, []int{5}, "[[1 2 3 4 5]]", true},
		{[]byte{1, 2, 3, 4, 5}, []int{5, 0, 0}, "[[1 2 3 4 5] [] []]", true},
		{[]byte{1, 2, 3, 4, 5}, []int{0, 0, 1}, "[[] [] [1]]", true},
		{[]byte{1, 2, 3, 4, 5}, []int{1, 1, 1, 1, 1}, "[[1] [2] [3] [4] [5]]", true},
		{[]byte{1, 2, 3, 4, 5}, nil, "[]", true},
		{[]byte{1, 2, 3, 4, 5}, []int{}, "[]", true},
		{nil, nil, "[]", true},
		{nil, []int{0, 0}, "[[] []]", true},
		{[]byte{}, []int{0}, "[[]]", true},
		{nil, []int{1}, "[]", false},
		{[]byte{1, 2, 3, 4, 5}, []int{6}, "[]", false},
		{[]byte{1, 2, 3, 4, 5}, []int{2, 4}, "[]", false},
		{[]byte{1, 2, 3, 4, 5}, []int{5, 1}, "[]", false},
		{[]byte{1, 2, 3, 4, 5}, []int{-1}, "[]", false},
		{[]byte{1, 2, 3, 4, 5}, []int{-1, 2}, "[]", false},
		{[]byte{1, 2, 3, 4, 5}, []int{3, -1}, "[]", false},
		{[]byte{1, 2, 3, 4, 5}, []int{5, -5, 5}, "[]", false},
		{[]byte{1, 2, 3, 4, 5}, []int{2, -2}, "[]", false},
		{[]byte{1, 2, 3, 4, 5}, []int{6, -1}, "[]", false},
	} {
		if l, ok := Split(c.b, c.sizes); fmt.Sprint(l) != c.want || ok != c.ok {
			t.Errorf("Split(%v, %v) = %v, %v, want %s, %v", c.b, c.sizes, l, ok, c.want, c.ok)
		}
	}
}

// P9.3: sums that do not fit an int are greater than every length (R5).
func TestSplitOverflow(t *testing.T) {
	for _, sizes := range [][]int{
		{math.MaxInt},
		{math.MaxInt, math.MaxInt},
		{math.MaxInt, math.MaxInt, 2},
		{1, math.MaxInt},
		{1, math.MaxInt, math.MaxInt},
		{1, math.MaxInt, math.MaxInt, 3},
		{1 << 62, 1 << 62, 1 << 62, 1 << 62},
		{math.MinInt},
		{math.MinInt, math.MinInt},
		{1, math.MinInt, math.MinInt},
		{5, math.MinInt, math.MinInt},
	} {
		if l, ok := Split(sample(5), sizes); len(l) != 0 || ok {
			t.Errorf("Split(%v) = %v, %v", sizes, l, ok)
		}
	}
}

// P9.3: bytes behind the length do not count.
func TestSplitSpare(t *testing.T) {
	for n := range 10 {
		b := spare(sample(n))
		if l, ok := Split(b, []int{n, 1}); len(l) != 0 || ok {
			t.Errorf("Split of %d bytes into %d and 1 = %v, %v", n, n, l, ok)
		}
	}
}

// P9.3, P9.4: the pieces have their sizes and, joined, are a beginning.
func TestSplitJoined(t *testing.T) {
	b := sample(100)
	for first := range 12 {
		for second := range 101 {
			sizes := []int{first, second, 7}
			l, ok := Split(b, sizes)
			if ok != (first+second+7 <= len(b)) {
				t.Fatalf("Split(%v) is %v", sizes, ok)
			}
			if !ok {
				continue
			}
			if len(l) != 3 || len(l[0]) != first || len(l[1]) != second || len(l[2]) != 7 {
				t.Fatalf("Split(%v) = %v", sizes, l)
			}
			if !bytes.HasPrefix(b, bytes.Join(l, nil)) {
				t.Errorf("Split(%v) = %v", sizes, l)
			}
		}
	}
}

// R2: arguments and their spare capacity stay as they are, whatever is done with the results.
func TestArgumentsStay(t *testing.T) {
	for _, k := range []int{0, 5, 64, 65, 100} {
		for _, n := range []int{0, 1, 40, 64} {
			key, b := spare(sample(k)), spare(sample(n))
			clear(Hmac(key, b))
			out, _ := Plus(key, b, 70)
			clear(out[:cap(out)])
			checkSpare(t, "key", key, sample(k))
			checkSpare(t, "bytes", b, sample(n))
		}
	}
	b, sizes := spare(sample(9)), []int{4, 0, 5}
	l, _ := Split(b, sizes)
	for _, piece := range l {
		clear(piece[:cap(piece)])
	}
	checkSpare(t, "Split", b, sample(9))
	if fmt.Sprint(sizes) != "[4 0 5]" {
		t.Errorf("the sizes became %v", sizes)
	}
}

// R2: no piece is changed with another one, or with a later result.
func TestPiecesAreNew(t *testing.T) {
	l, _ := Split(sample(9), []int{3, 3, 3})
	for i, piece := range l {
		_ = append(piece, 1, 2, 3)
		clear(piece)
		for j := i + 1; j < len(l); j++ {
			if want := sample(9)[3*j : 3*j+3]; !bytes.Equal(l[j], want) {
				t.Errorf("the piece %d became %v, want %v", j, l[j], want)
			}
		}
	}
	key, seed := sample(3), sample(4)
	first, _ := Plus(key, seed, 40)
	want := wire.Hex(first)
	clear(first)
	if again, _ := Plus(key, seed, 40); wire.Hex(again) != want {
		t.Errorf("Plus became %x", again)
	}
}
