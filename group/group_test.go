package group

import (
	"bytes"
	"encoding/binary"
	"math/big"
	"testing"

	"ipsecgate/api"
	"ipsecgate/wire"
)

// The numbers of the chapter, so that a test fails if those of the package change.
const (
	p    = 4611686018427377339
	q    = 2305843009213688669
	most = 1<<64 - 1
)

// edges returns the numbers at which something begins or ends: small ones, powers of two, multiples of q, and those beside them.
func edges() []uint64 {
	list := []uint64{3, 5, 7, 10565, 42260, 0x0123456789abcdef, 0xfedcba9876543210}
	for _, center := range []uint64{
		0, 4, 1 << 8, 1 << 16, 1 << 31, 1 << 32, 1 << 56, 1 << 60, 1 << 61, 1 << 62, 1 << 63, 3 << 62, p - 4, p + 4, q / 2, q, 2 * q, 3 * q, 4 * q, 5 * q,
		6 * q, 7 * q, p, 2 * p, 3 * p,
	} {
		list = append(list, center-2, center-1, center, center+1, center+2)
	}
	return list
}

// mixed returns n numbers of all sizes that have no order.
func mixed(n int) []uint64 {
	list := make([]uint64, n)
	x := uint64(88172645463325252)
	for i := range list {
		x ^= x << 13
		x ^= x >> 7
		x ^= x << 17
		list[i] = x >> (i % 7 * i % 64)
	}
	return list
}

func bigOf(a uint64) *big.Int { return new(big.Int).SetUint64(a) }

// product computes a product with numbers of any size.
func product(a, b uint64) uint64 {
	v := new(big.Int).Mul(bigOf(a), bigOf(b))
	return v.Mod(v, bigOf(p)).Uint64()
}

// power computes a power with numbers of any size.
func power(a, e uint64) uint64 { return new(big.Int).Exp(bigOf(a), bigOf(e), bigOf(p)).Uint64() }

// isElement computes without any power: the elements are the squares.
func isElement(a uint64) bool { return a > 1 && a < p && big.Jacobi(bigOf(a), bigOf(p)) == 1 }

// bytesOf returns the bytes of a text of wire.Hex.
func bytesOf(t *testing.T, text string) []byte {
	t.Helper()
	b, e := wire.Unhex(text)
	if e != api.OK {
		t.Fatalf("%s is not hexadecimal", text)
	}
	return b
}

// public returns the public number of a secret that has one.
func public(t *testing.T, secret uint64) uint64 {
	t.Helper()
	y, e := Public(secret)
	if e != api.OK {
		t.Fatalf("Public(%d) = %d, %d", secret, y, e)
	}
	return y
}

// The numbers of the chapter are what it says of them.
func TestNumbers(t *testing.T) {
	for _, v := range []uint64{1<<62 - 10565, 2*q + 1} {
		if v != p {
			t.Errorf("p is %d", v)
		}
	}
	if !bigOf(p).ProbablyPrime(40) || !bigOf(q).ProbablyPrime(40) {
		t.Error("p or q is not prime")
	}
}

// P13.1: products that were computed elsewhere.
func TestProducts(t *testing.T) {
	for _, c := range [][3]uint64{
		{0, 0, 0},
		{0, most, 0},
		{1, 1, 1},
		{1, p - 1, p - 1},
		{1, p, 0},
		{1, p + 1, 1},
		{1, most, 42259},
		{2, q, p - 1},
		{2, q + 1, 1},
		{q, q, 1152921504606844335},
		{p - 1, p - 2, 2},
		{p - 1, p - 1, 1},
		{p + 1, p + 1, 1},
		{2 * p, most, 0},
		{3*p + 5, 3*p + 7, 35},
		{1 << 31, 1 << 31, 10565},
		{1 << 32, 1 << 32, 42260},
		{1 << 63, 1 << 63, 446476900},
		{most, most, 1785823081},
		{10565, p - 10565, 4611686018315758114},
		{0x0123456789abcdef, 0xfedcba9876543210, 2234014576124657076},
	} {
		if v := Mul(c[0], c[1]); v != c[2] {
			t.Errorf("Mul(%d, %d) = %d, want %d", c[0], c[1], v, c[2])
		}
		if v := Mul(c[1], c[0]); v != c[2] {
			t.Errorf("Mul(%d, %d) = %d, want %d", c[1], c[0], v, c[2])
		}
	}
}

// P13.1, R5: all numbers, not only those below p.
func TestMul(t *testing.T) {
	check := func(a, b uint64) {
		t.Helper()
		if v := Mul(a, b); v != product(a, b) {
			t.Errorf("Mul(%d, %d) = %d, want %d", a, b, v, product(a, b))
		}
	}
	for _, a := range edges() {
		for _, b := range edges() {
			check(a, b)
		}
	}
	list := mixed(20000)
	for i, a := range list {
		check(a, list[len(list)-1-i])
	}
}

// P13.1: powers that were computed elsewhere.
func TestPowers(t *testing.T) {
	for _, c := range [][3]uint64{
		{0, 0, 1},
		{1, 0, 1},
		{p, 0, 1},
		{3*p + 2, 0, 1},
		{most, 0, 1},
		{0, 1, 0},
		{0, most, 0},
		{p, 1, 0},
		{p, most, 0},
		{1, most, 1},
		{3 * p, 1, 0},
		{p + 1, 1, 1},
		{most, 1, 42259},
		{most, 2, 1785823081},
		{2, 61, 1 << 61},
		{2, 62, 10565},
		{2, 64, 42260},
		{3*p + 2, 62, 10565},
		{10, 18, 1000000000000000000},
		{10, 19, 776627963145245322},
		{4, q - 1, 1152921504606844335},
		{4, q, 1},
		{2, q, p - 1},
		{q, q, 1},
		{5, p - 2, 922337203685475468},
		{7, p - 1, 1},
		{7, p, 7},
		{7, 1 << 63, 4151262778125609340},
		{p - 1, most - 1, 1},
		{p - 1, most, p - 1},
		{123456789, 987654321, 2812076742834952519},
		{3, most, 2084221384474605719},
		{most, most, 2224637672088190683},
	} {
		if v := Power(c[0], c[1]); v != c[2] {
			t.Errorf("Power(%d, %d) = %d, want %d", c[0], c[1], v, c[2])
		}
	}
}

// P13.1, R5: all numbers and all exponents, also those beyond the order.
func TestPower(t *testing.T) {
	check := func(a, e uint64) {
		t.Helper()
		if v := Power(a, e); v != power(a, e) {
			t.Errorf("Power(%d, %d) = %d, want %d", a, e, v, power(a, e))
		}
	}
	for _, a := range edges() {
		for _, e := range edges() {
			check(a, e)
		}
		for bit := range 64 {
			check(a, 1<<bit)
			check(a, most>>bit)
		}
	}
	list := mixed(3000)
	for i, a := range list {
		check(a, list[len(list)-1-i])
	}
}

// P13.1: a power is a product of so many numbers.
func TestSmallPowers(t *testing.T) {
	for _, a := range edges() {
		v := uint64(1)
		for e := range uint64(300) {
			if got := Power(a, e); got != v {
				t.Errorf("Power(%d, %d) = %d, want %d", a, e, got, v)
			}
			v = product(v, a)
		}
	}
}

// P13.2: what is below, above and in between.
func TestElements(t *testing.T) {
	for a, want := range map[uint64]bool{
		0: false, 1: false, 2: false, 3: true, 4: true, 5: true, 6: false, 7: false, 8: false, 9: true, 10: false, 16: true, 36: true, 37: false,
		q: true, q + 1: false, p - 1: false, p - 2: true, p - 3: false, p - 4: false, p - 6: true,
		// These are 0, 1, 3, 4 and 9 modulo p, but too great.
		p: false, p + 1: false, p + 3: false, p + 4: false, p + 9: false, 2*p + 4: false, 3*p + 1: false, 3*p + 4: false, most: false,
	} {
		if Element(a) != want {
			t.Errorf("Element(%d) = %v", a, !want)
		}
	}
}

// P13.2: the numbers at both ends, and many others.
func TestElement(t *testing.T) {
	check := func(a uint64) {
		t.Helper()
		if got := Element(a); got != isElement(a) {
			t.Errorf("Element(%d) = %v", a, got)
		}
	}
	for i := range uint64(2000) {
		for _, begin := range []uint64{0, p - 1000, 2*p - 1000, 3*p - 1000, q - 1000, 1<<63 - 1000, most - 1999} {
			check(begin + i)
		}
	}
	for _, a := range append(edges(), mixed(5000)...) {
		check(a)
		check(a % p)
	}
}

// P13.2: -1 is no square, so that of a and p - a one is an element; 1 alone is none though Power is 1.
func TestHalf(t *testing.T) {
	for _, a := range mixed(2000) {
		if a = a % p; a > 1 && a < p-1 && Element(a) == Element(p-a) {
			t.Errorf("Element(%d) = Element(%d)", a, p-a)
		}
	}
	if Power(1, q) != 1 || Element(1) {
		t.Error("1 is an element")
	}
}

// P13.3: the examples of the chapter, and others that were computed elsewhere.
func TestPublicNumbers(t *testing.T) {
	for secret, want := range map[uint64]uint64{
		1: 4, 2: 16, 3: 64, 30: 1 << 60, 31: 10565, 32: 42260, 100: 19320948525056000, 1000000007: 3790408796427652416,
		1 << 60: 1563301501123432224, 1<<60 + 7: 4439334079087194549, 0x0123456789abcdef: 802691517575179848,
		(q - 1) / 2: q, q - 2: 3746994889972244088, q - 1: 1152921504606844335,
	} {
		if y, e := Public(secret); y != want || e != api.OK {
			t.Errorf("Public(%d) = %d, %d, want %d", secret, y, e, want)
		}
	}
}

// P13.3: secrets are refused from q on, not from p on, and 0 is refused.
func TestPublic(t *testing.T) {
	for _, secret := range append(edges(), mixed(3000)...) {
		y, e := Public(secret)
		if secret == 0 || secret >= q {
			if y != 0 || e != api.ErrKey {
				t.Errorf("Public(%d) = %d, %d, want ErrKey", secret, y, e)
			}
		} else if y != power(4, secret) || e != api.OK {
			t.Errorf("Public(%d) = %d, %d, want %d", secret, y, e, power(4, secret))
		}
	}
}

// P13.3: shared secrets that were computed elsewhere, those with zeros in front as well.
func TestSharedSecrets(t *testing.T) {
	for _, c := range []struct {
		secret, public uint64
		want           string
	}{
		{1, 4, "0000000000000004"},
		{2, 4, "0000000000000010"},
		{5, 16, "0000000000100000"},
		{7, 9, "000000000048fb79"},
		{30, 4, "1000000000000000"},
		{1, p - 2, "3fffffffffffd6b9"},
		{q - 1, 4, "0ffffffffffff5af"},
		{987654321987, 605434814716037983, "21ebb9c13e6168e2"},
	} {
		if b, e := Shared(c.secret, c.public); wire.Hex(b) != c.want || e != api.OK {
			t.Errorf("Shared(%d, %d) = %x, %d, want %s", c.secret, c.public, b, e, c.want)
		}
	}
}

// P13.3: wrong secrets, wrong public numbers, and both at once.
func TestShared(t *testing.T) {
	check := func(secret, public uint64) {
		t.Helper()
		b, e := Shared(secret, public)
		if secret == 0 || secret >= q || !isElement(public) {
			if len(b) != 0 || e != api.ErrKey {
				t.Errorf("Shared(%d, %d) = %x, %d, want ErrKey", secret, public, b, e)
			}
			return
		}
		if want := binary.BigEndian.AppendUint64(nil, power(public, secret)); !bytes.Equal(b, want) || e != api.OK {
			t.Errorf("Shared(%d, %d) = %x, %d, want %x", secret, public, b, e, want)
		}
	}
	for _, secret := range edges() {
		for _, public := range edges() {
			check(secret, public)
		}
	}
	for i, x := range mixed(3000) {
		check(x%q, power(4, x+uint64(i)))
		check(x, x%p)
		check(5, x)
	}
}

// P13.4: bytes of any number.
func TestBytes(t *testing.T) {
	for a, want := range map[uint64]string{
		0: "0000000000000000", 1: "0000000000000001", 255: "00000000000000ff", 256: "0000000000000100", 1 << 56: "0100000000000000",
		0x0102030405060708: "0102030405060708", 0xfedcba9876543210: "fedcba9876543210", p: "3fffffffffffd6bb", q: "1fffffffffffeb5d",
		most: "ffffffffffffffff",
	} {
		if b := Bytes(a); wire.Hex(b) != want {
			t.Errorf("Bytes(%d) = %x, want %s", a, b, want)
		}
	}
	for _, a := range append(edges(), mixed(1000)...) {
		if b := Bytes(a); !bytes.Equal(b, binary.BigEndian.AppendUint64(nil, a)) {
			t.Errorf("Bytes(%d) = %x", a, b)
		}
	}
}

// P13.4: elements, and numbers that are none.
func TestParse(t *testing.T) {
	for text, want := range map[string]uint64{
		"0000000000000000": 0, "0000000000000001": 0, "0000000000000002": 0, "0000000000000003": 3, "0000000000000004": 4, "0000000000000007": 0,
		"0400000000000000": 1 << 58, "0000000000000400": 1024, "1fffffffffffeb5d": q, "1fffffffffffeb5e": 0, "3fffffffffffd6b9": p - 2,
		"3fffffffffffd6ba": 0, "3fffffffffffd6bb": 0, "3fffffffffffd6bc": 0, "3fffffffffffd6bf": 0, "4000000000000000": 0, "8000000000000000": 0,
		"ffffffffffffffff": 0, "21ebb9c13e6168e2": 0x21ebb9c13e6168e2,
	} {
		e := api.OK
		if want == 0 {
			e = api.ErrKey
		}
		if a, got := Parse(bytesOf(t, text)); a != want || got != e {
			t.Errorf("Parse(%s) = %d, %d, want %d, %d", text, a, got, want, e)
		}
	}
	for _, a := range append(edges(), mixed(3000)...) {
		got, e := Parse(binary.BigEndian.AppendUint64(nil, a))
		if isElement(a) && (got != a || e != api.OK) || !isElement(a) && (got != 0 || e != api.ErrKey) {
			t.Errorf("Parse of %d = %d, %d", a, got, e)
		}
	}
}

// P13.4: another number of bytes is found ahead of what they say.
func TestParseLengths(t *testing.T) {
	element := bytesOf(t, "0000000000000004")
	for n := range 40 {
		for _, b := range [][]byte{
			make([]byte, n), bytes.Repeat([]byte{255}, n), bytes.Repeat(element, 5)[:n], append(make([]byte, max(n-1, 0)), 4)[:n],
			append(element, make([]byte, 32)...)[:n],
		} {
			if n == 8 {
				continue
			}
			if a, e := Parse(b); a != 0 || e != api.ErrLength {
				t.Errorf("Parse(%x) = %d, %d, want ErrLength", b, a, e)
			}
		}
	}
	if a, e := Parse(nil); a != 0 || e != api.ErrLength {
		t.Errorf("Parse(nil) = %d, %d", a, e)
	}
}

// P13.5: products do not depend on the order, nor powers on how the exponent is split.
func TestLaws(t *testing.T) {
	list := append(edges(), mixed(2000)...)
	for i, a := range list {
		b, c := list[(i+7)%len(list)], list[(i*3+1)%len(list)]
		if Mul(a, b) != Mul(b, a) || Mul(Mul(a, b), c) != Mul(a, Mul(b, c)) {
			t.Errorf("products of %d, %d and %d", a, b, c)
		}
		if b+c >= b && Power(a, b+c) != Mul(Power(a, b), Power(a, c)) {
			t.Errorf("powers of %d by %d and %d", a, b, c)
		}
	}
}

// P13.5: both ends get the same secret.
func TestAgreement(t *testing.T) {
	list := append(mixed(500), 1, 2, q-1, q-2, q/2)
	for i, x := range list {
		x, y := x%(q-1)+1, list[(i+11)%len(list)]%(q-1)+1
		a, e := Shared(x, public(t, y))
		b, f := Shared(y, public(t, x))
		if len(a) != 8 || !bytes.Equal(a, b) || e != api.OK || f != api.OK {
			t.Errorf("the secrets %d and %d share %x, %d and %x, %d", x, y, a, e, b, f)
		}
		if s, e := Parse(a); !bytes.Equal(Bytes(s), a) || e != api.OK {
			t.Errorf("Parse(%x) = %d, %d", a, s, e)
		}
	}
}

// P13.5: products and powers of elements are elements or 1.
func TestClosed(t *testing.T) {
	list := append(mixed(500), edges()...)
	for i, x := range list {
		a, b := Power(4, x), Power(9, list[(i+5)%len(list)])
		for _, v := range []uint64{a, b, Mul(a, b), Power(a, x), Power(b, x)} {
			if v != 1 && !Element(v) {
				t.Errorf("%d is no element, from %d and %d", v, a, b)
			}
		}
	}
}

// R2: the argument and its spare capacity stay as they are.
func TestArgumentsStay(t *testing.T) {
	for _, text := range []string{"0000000000000004", "0000000000000001", "ffffffffffffffff", "00000000000004", "000000000000000004", ""} {
		want := append(bytesOf(t, text), bytes.Repeat([]byte{0xa5}, 40)...)
		b := bytes.Clone(want)
		Parse(b[:len(text)/2])
		if !bytes.Equal(b, want) {
			t.Errorf("Parse changed %x to %x", want, b)
		}
	}
}

// R2: who changes a result changes no later one.
func TestResultsAreNew(t *testing.T) {
	for range 3 {
		b := Bytes(0x0102030405060708)
		s, e := Shared(2, 4)
		if wire.Hex(b) != "0102030405060708" || wire.Hex(s) != "0000000000000010" || e != api.OK {
			t.Errorf("Bytes = %x, Shared = %x, %d", b, s, e)
		}
		clear(b[:cap(b)])
		clear(s[:cap(s)])
	}
}
