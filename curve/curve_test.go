package curve

import (
	"bytes"
	"crypto/ecdh"
	"math/big"
	"slices"
	"testing"

	"ipsecgate/api"
	"ipsecgate/wire"
)

// sample returns 32 bytes that differ by n.
func sample(n int) []byte {
	b := make([]byte, 32)
	for i := range b {
		b[i] = byte(i*167 + n*7 + 13 + i*i*n)
	}
	return b
}

// bytesOf32 returns the bytes of a text of wire.Hex.
func bytesOf32(t *testing.T, text string) []byte {
	t.Helper()
	b, e := wire.Unhex(text)
	if e != api.OK || len(b) != 32 {
		t.Fatalf("%s is not 32 bytes", text)
	}
	return b
}

// power returns 2^n and d more.
func power(n uint, d int64) *big.Int {
	v := new(big.Int).Lsh(big.NewInt(1), n)
	return v.Add(v, big.NewInt(d))
}

// fromLow returns the number of b, the lowest byte first.
func fromLow(b []byte) *big.Int {
	b = bytes.Clone(b)
	slices.Reverse(b)
	return new(big.Int).SetBytes(b)
}

// toLow returns the 32 bytes of v, the lowest one first.
func toLow(v *big.Int) []byte {
	b := v.FillBytes(make([]byte, 32))
	slices.Reverse(b)
	return b
}

// number returns the 32 bytes of a small number.
func number(v int64) []byte { return toLow(big.NewInt(v)) }

// modulo returns v modulo 2^255 - 19.
func modulo(v *big.Int) *big.Int { return v.Mod(v, power(255, -19)) }

// edges returns the numbers of 32 bytes at which something begins or ends: small ones, powers of two and those around the modulus and its double.
func edges() [][]byte {
	var list [][]byte
	for d := int64(0); d <= 40; d++ {
		list = append(list, number(d), toLow(power(255, -d-1)), toLow(power(255, d)), toLow(power(256, -d-1)))
	}
	for n := uint(4); n < 256; n++ {
		list = append(list, toLow(power(n, -1)), toLow(power(n, 0)), toLow(power(n, 1)), toLow(new(big.Int).Sub(power(255, -19), power(n-1, 0))))
	}
	return list
}

// scalars returns one scalar for each kind of bits.
func scalars() [][]byte {
	return [][]byte{
		sample(1), make([]byte, 32), bytes.Repeat([]byte{255}, 32), bytes.Repeat([]byte{0x55}, 32), bytes.Repeat([]byte{0xaa}, 32),
		append(make([]byte, 31), 0x40), append(bytes.Repeat([]byte{255}, 16), make([]byte, 16)...),
	}
}

// orderEight returns the points of order 8. With 0 (of order 2), 1 and p - 1 (of order 4) they are those that every scalar makes 0 of.
func orderEight(t *testing.T) [][]byte {
	return [][]byte{
		bytesOf32(t, "e0eb7a7c3b41b8ae1656e3faf19fc46ada098deb9c32b1fd866205165f49b800"),
		bytesOf32(t, "5f9c95bca3508c24b1d0b1559c83ef5b04445cc4581c8e86d8224eddd09f1157"),
	}
}

// vector is a scalar, a point and their product.
type vector struct{ scalar, point, want string }

// check fails if Multiply or Shared is not what crypto/ecdh computes, which has an error where the result is 0.
func check(t *testing.T, scalar, point []byte) {
	t.Helper()
	want, code := make([]byte, 32), api.ErrKey
	k, wrong := ecdh.X25519().NewPrivateKey(scalar)
	u, bad := ecdh.X25519().NewPublicKey(point)
	if wrong != nil || bad != nil {
		t.Fatalf("no key: %v, %v", wrong, bad)
	}
	if b, err := k.ECDH(u); err == nil {
		want, code = b, api.OK
	}
	if b, e := Multiply(scalar, point); !bytes.Equal(b, want) || e != api.OK {
		t.Errorf("Multiply(%x, %x) = %x, %d, want %x", scalar, point, b, e, want)
	}
	b, e := Shared(scalar, point)
	if e != code || code == api.OK && !bytes.Equal(b, want) || code != api.OK && len(b) != 0 {
		t.Errorf("Shared(%x, %x) = %x, %d, want %x, %d", scalar, point, b, e, want, code)
	}
}

// multiple returns Multiply of arguments for which it has no error.
func multiple(t *testing.T, scalar, point []byte) []byte {
	t.Helper()
	b, e := Multiply(scalar, point)
	if len(b) != 32 || e != api.OK {
		t.Fatalf("Multiply(%x, %x) = %x, %d", scalar, point, b, e)
	}
	return b
}

// public returns Public of a scalar for which it has no error.
func public(t *testing.T, scalar []byte) []byte {
	t.Helper()
	b, e := Public(scalar)
	if len(b) != 32 || e != api.OK {
		t.Fatalf("Public(%x) = %x, %d", scalar, b, e)
	}
	return b
}

// spot is a point of the curve B y^2 = x^3 + 486662 x^2 + x; the neutral one has no coordinates.
type spot struct{ x, y *big.Int }

const curveA = 486662

// cubic returns x^3 + 486662 x^2 + x.
func cubic(x *big.Int) *big.Int {
	v := new(big.Int).Add(x, big.NewInt(curveA))
	v.Mul(v, x).Add(v, big.NewInt(1)).Mul(v, x)
	return modulo(v)
}

// slope returns that of the line through two points, or of the tangent; nil if it goes through the neutral point.
func slope(b *big.Int, v, w spot) *big.Int {
	over, under := new(big.Int).Sub(w.y, v.y), new(big.Int).Sub(w.x, v.x)
	if v.x.Cmp(w.x) == 0 && v.y.Cmp(w.y) == 0 {
		over.Mul(v.x, big.NewInt(3)).Add(over, big.NewInt(2*curveA)).Mul(over, v.x).Add(over, big.NewInt(1))
		under.Mul(v.y, b).Lsh(under, 1)
	}
	if modulo(under).Sign() == 0 {
		return nil
	}
	return modulo(over.Mul(over, under.ModInverse(under, power(255, -19))))
}

// added returns the sum of two points.
func added(b *big.Int, v, w spot) spot {
	if v.x == nil {
		return w
	}
	if w.x == nil {
		return v
	}
	s := slope(b, v, w)
	if s == nil {
		return spot{}
	}
	x := new(big.Int).Mul(s, s)
	x.Mul(x, b).Sub(x, big.NewInt(curveA)).Sub(x, v.x).Sub(x, w.x)
	modulo(x)
	y := new(big.Int).Sub(v.x, x)
	return spot{x, modulo(y.Mul(y, s).Sub(y, v.y))}
}

// times returns the x of k times the point of x, by both coordinates; nil if that is the neutral one. With B = cubic(x) every x but 0 has a point with y = 1.
func times(k, x *big.Int) *big.Int {
	b, one, sum := cubic(x), spot{x, big.NewInt(1)}, spot{}
	if b.Sign() == 0 {
		one.y, b = new(big.Int), big.NewInt(1)
	}
	for i := k.BitLen() - 1; i >= 0; i-- {
		sum = added(b, sum, sum)
		if k.Bit(i) == 1 {
			sum = added(b, sum, one)
		}
	}
	return sum.x
}

// scalarOf returns the number k that a scalar stands for.
func scalarOf(scalar []byte) *big.Int {
	k := fromLow(scalar)
	for _, bit := range []int{0, 1, 2, 255} {
		k.SetBit(k, bit, 0)
	}
	return k.SetBit(k, 254, 1)
}

// orderOf returns the greatest prime in the order of the group to which the point of x belongs: that of the curve or that of its twist.
func orderOf(x *big.Int) *big.Int {
	text := "27742317777372353535851937790883648493" // above 2^252
	if big.Jacobi(cubic(x), power(255, -19)) < 0 {
		text = "-55484635554744707071703875581767296995" // above 2^253
	}
	d, _ := new(big.Int).SetString(text, 10)
	if d.Sign() < 0 {
		return d.Add(d, power(253, 0))
	}
	return d.Add(d, power(252, 0))
}

// pointTo returns a point that the scalar makes v of; false if there is none.
func pointTo(scalar []byte, v *big.Int) ([]byte, bool) {
	order := orderOf(v)
	if v.Sign() == 0 || times(order, v) != nil {
		return nil, false
	}
	k := scalarOf(scalar)
	return toLow(times(k.ModInverse(k, order), v)), true
}

// P14.1: the vectors of RFC 7748.
func TestVectors(t *testing.T) {
	for _, c := range []vector{
		{
			"a546e36bf0527c9d3b16154b82465edd62144c0ac1fc5a18506a2244ba449ac4",
			"e6db6867583030db3594c1a424b15f7c726624ec26b3353b10a903a6d0ab1c4c",
			"c3da55379de9c6908e94ea4df28d084f32eccf03491c71f754b4075577a28552",
		},
		{
			"4b66e9d4d1b4673c5ad22691957d6af5c11b6421e0ea01d42ca4169e7918ba0d",
			"e5210f12786811d3f4b7959d0538ae2c31dbe7106fc03c3efc4cd549c715a493",
			"95cbde9476e8907d7aade45cb4b873f88b595a68799fa152e6f8f7647aac7957",
		},
	} {
		if b := multiple(t, bytesOf32(t, c.scalar), bytesOf32(t, c.point)); wire.Hex(b) != c.want {
			t.Errorf("Multiply(%s, %s) = %x, want %s", c.scalar, c.point, b, c.want)
		}
	}
}

// P14.1: the vectors of RFC 7748 where each result is the next scalar, and the scalar the next point.
func TestIterated(t *testing.T) {
	k, u := number(9), number(9)
	for i := 1; i <= 1000; i++ {
		k, u = multiple(t, k, u), k
		if want := "422c8e7a6227d7bca1350b3e2bb7279f7897b87bb6854b783c60e80311ae3079"; i == 1 && wire.Hex(k) != want {
			t.Errorf("after 1: %x, want %s", k, want)
		}
	}
	if want := "684cf59ba83309552800ef566f2f4d3c1c3887c49360e3875f2eb94d99532c51"; wire.Hex(k) != want {
		t.Errorf("after 1000: %x, want %s", k, want)
	}
}

// P14.1: products that OpenSSL computed.
func TestOthers(t *testing.T) {
	for n, want := range []string{
		"89b5cdac8e4bd2e7ab82d7245d897b1eeb9b079f42337220dd4d6dbfc72b4666",
		"5e29f1dadff8d1329167e6cf4d6ce825968efe5ceb2758e7594909093effca74",
		"e947638622aae28fb47f274229c269a66d063b2dcd35a082f3197b37e84e680b",
		"3d37c5fe13b95c598dd117504a64d0e2505bc07eeda1c9a2a73dab2a2fecec01",
		"a4841f53ad858c8a3d1417ee716880f97bcbfff8530e9a78d6422a66c70dbd37",
		"e1c3cd5507c34898441f288a066118307f9ecfbb5891d5c67bfab82c3537616b",
	} {
		if b := multiple(t, sample(n), sample(n+100)); wire.Hex(b) != want {
			t.Errorf("%d: Multiply = %x, want %s", n, b, want)
		}
	}
	for _, c := range []vector{
		{"00", "02", "1bfd8c01d2fe9fca58ae61ab792b0a68feebfc17a2e95068d12fa5007a519541"},
		{"00", "ff", "b32d1362c248d62fe62619cff04dd43db73ffc1b6308ede30b78d87380f1e834"},
		{"ff", "02", "5a7fe7f6160ee72b67c6434d69c72e5a7fcd1d6770bcbf23df70510bb1169650"},
		{"ff", "ff", "96186d56afdbfeda62f0d07168fa8b142b3d8530e9705fd818cfd33591ea927f"},
		{"55", "02", "a9b99e847cc458c6576e47c095f8d5e64a72aaf9be4949b7a6d24e64da8a6c6b"},
		{"55", "ff", "fef59e7db203c3280ec29f0a9683102f54b287400a845f4b8985729357def56d"},
		{"aa", "02", "98e8a05afcfec19af8185c9cfe32ca8f9718378bc204d58c49dec231121e993a"},
		{"aa", "ff", "b794db1d99e15e6b2e325c28b596af3b7dd2a734b360a3af238768d370b9ff10"},
	} {
		k, _ := wire.Unhex(c.scalar)
		u := number(2)
		if c.point == "ff" {
			u = bytes.Repeat([]byte{255}, 32)
		}
		if b := multiple(t, bytes.Repeat(k, 32), u); wire.Hex(b) != c.want {
			t.Errorf("Multiply of the bytes %s, the point %s = %x, want %s", c.scalar, c.point, b, c.want)
		}
	}
}

// P14.1: points at which something begins or ends.
func TestPoints(t *testing.T) {
	for i, point := range edges() {
		check(t, append(scalars(), sample(i))[i%(len(scalars())+1)], point)
	}
}

// P14.1: scalars with one bit, without one bit, and those at which something begins or ends.
func TestScalars(t *testing.T) {
	for i, scalar := range edges() {
		check(t, scalar, sample(i))
	}
	for bit := range 256 {
		b := bytes.Repeat([]byte{255}, 32)
		b[bit/8] -= 1 << (bit % 8)
		check(t, b, number(9))
		check(t, b, sample(bit))
		check(t, sample(bit), b)
	}
}

// P14.1: many products, each of which is made of results of others.
func TestMany(t *testing.T) {
	k, u := sample(3), sample(4)
	for range 1000 {
		check(t, k, u)
		k, u = multiple(t, k, u), k
	}
}

// P14.1: the multiples are those of the curve and of its twist, by both coordinates.
func TestCurve(t *testing.T) {
	same := func(scalar, point []byte) {
		t.Helper()
		x := fromLow(point)
		x = times(scalarOf(scalar), modulo(x.SetBit(x, 255, 0)))
		if x == nil {
			x = new(big.Int)
		}
		if b := multiple(t, scalar, point); !bytes.Equal(b, toLow(x)) {
			t.Errorf("Multiply(%x, %x) = %x, want %x", scalar, point, b, toLow(x))
		}
	}
	for i, scalar := range scalars() {
		for v := range int64(6) {
			same(scalar, number(v))
			same(scalar, toLow(power(255, v-22)))
		}
		same(scalar, sample(i))
		same(scalar, orderEight(t)[i%2])
	}
	for i := range 40 {
		same(sample(i), sample(i+50))
	}
}

// reached reports whether there is a point that the scalar makes v of, and fails if Multiply or Shared makes something else of it.
func reached(t *testing.T, scalar []byte, v *big.Int) bool {
	t.Helper()
	point, ok := pointTo(scalar, v)
	if !ok {
		return false
	}
	if b := multiple(t, scalar, point); !bytes.Equal(b, toLow(v)) {
		t.Errorf("Multiply(%x, %x) = %x, want %x", scalar, point, b, toLow(v))
	}
	if b, e := Shared(scalar, point); !bytes.Equal(b, toLow(v)) || e != api.OK {
		t.Errorf("Shared(%x, %x) = %x, %d, want %x", scalar, point, b, e, toLow(v))
	}
	return true
}

// P14.1: the results below 19, which are those that could also be written as p more.
func TestSmallResults(t *testing.T) {
	count := 0
	for v := int64(1); v < 19; v++ {
		for _, scalar := range scalars() {
			if reached(t, scalar, big.NewInt(v)) {
				count++
			}
		}
	}
	if count < 3*len(scalars()) {
		t.Errorf("only %d small results were reached", count)
	}
}

// P14.1: results around powers of two and below p.
func TestResults(t *testing.T) {
	// Not each number is a result: the next ones are tried until one is.
	near := func(scalar []byte, v *big.Int, step int64) {
		t.Helper()
		for range 200 {
			if reached(t, scalar, v) {
				return
			}
			v.Add(v, big.NewInt(step))
		}
		t.Errorf("no result near %v was reached", v)
	}
	for i, n := range []uint{8, 51, 52, 58, 61, 64, 102, 128, 153, 192, 204, 248, 254} {
		scalar := scalars()[i%len(scalars())]
		near(scalar, power(n, 0), 1)
		near(scalar, power(n, -1), -1)
		near(scalar, new(big.Int).Sub(power(255, -20), power(n, 0)), -1)
	}
	near(sample(9), power(255, -20), -1)
}

// P14.1, P14.3: the bits 0, 1, 2, 254 and 255 of a scalar do not matter, and all others do.
func TestScalarBits(t *testing.T) {
	free := map[int]bool{0: true, 1: true, 2: true, 254: true, 255: true}
	for n := range 2 {
		k, u := sample(n), sample(n+20)
		want := multiple(t, k, u)
		for bit := range 256 {
			other := bytes.Clone(k)
			other[bit/8] ^= 1 << (bit % 8)
			if b := multiple(t, other, u); bytes.Equal(b, want) != free[bit] {
				t.Errorf("with the bit %d of the scalar changed: %x, before %x", bit, b, want)
			}
			if b := public(t, other); bytes.Equal(b, public(t, k)) != free[bit] {
				t.Errorf("with the bit %d of the scalar changed: the public bytes %x", bit, b)
			}
		}
		for bits := range 32 {
			other := bytes.Clone(k)
			other[0] = other[0]&^7 | byte(bits&7)
			other[31] = other[31]&63 | byte(bits>>3<<6)
			if b := multiple(t, other, u); !bytes.Equal(b, want) {
				t.Errorf("with other free bits %d: %x, before %x", bits, b, want)
			}
		}
	}
}

// P14.1, P14.3: the bit 255 of a point does not matter, and all others do.
func TestPointBits(t *testing.T) {
	for n := range 2 {
		k, u := sample(n), sample(n+20)
		want := multiple(t, k, u)
		for bit := range 256 {
			other := bytes.Clone(u)
			other[bit/8] ^= 1 << (bit % 8)
			if b := multiple(t, k, other); bytes.Equal(b, want) != (bit == 255) {
				t.Errorf("with the bit %d of the point changed: %x, before %x", bit, b, want)
			}
		}
	}
}

// P14.1: a point from p to 2^255 - 1 is one from 0 to 18.
func TestPointsModulo(t *testing.T) {
	for d := range int64(19) {
		k := sample(int(d))
		want := multiple(t, k, number(d))
		for _, point := range [][]byte{toLow(power(255, d-19)), toLow(power(255, d)), toLow(power(256, d-19))} {
			if b := multiple(t, k, point); !bytes.Equal(b, want) {
				t.Errorf("Multiply(%x, %x) = %x, and %x for %d", k, point, b, want, d)
			}
		}
	}
}

// P14.1, P14.2: the points of low order make 0, which is a product but no secret.
func TestZero(t *testing.T) {
	points := append(orderEight(t), number(0), number(1))
	for _, d := range []int64{-20, -19, -18} {
		points = append(points, toLow(power(255, d)), toLow(power(256, d)))
	}
	points = append(points, toLow(power(255, 0)), toLow(power(255, 1)))
	for _, point := range points {
		for _, scalar := range append(scalars(), sample(7), number(8), number(7)) {
			if b, e := Multiply(scalar, point); !bytes.Equal(b, make([]byte, 32)) || e != api.OK {
				t.Errorf("Multiply(%x, %x) = %x, %d", scalar, point, b, e)
			}
			if b, e := Shared(scalar, point); len(b) != 0 || e != api.ErrKey {
				t.Errorf("Shared(%x, %x) = %x, %d", scalar, point, b, e)
			}
		}
	}
}

// P14.1, P14.2: arguments that do not have 32 bytes, one of them or both.
func TestLengths(t *testing.T) {
	long := append(sample(1), sample(2)...)
	long = append(long, sample(3)...)
	for n := range len(long) {
		for m := range len(long) {
			if n > 34 && m > 34 || n == 32 && m == 32 {
				continue
			}
			if b, e := Multiply(long[:n], long[:m]); len(b) != 0 || e != api.ErrLength {
				t.Errorf("Multiply of %d and %d bytes = %x, %d", n, m, b, e)
			}
			if b, e := Shared(long[:n], long[:m]); len(b) != 0 || e != api.ErrLength {
				t.Errorf("Shared of %d and %d bytes = %x, %d", n, m, b, e)
			}
		}
		if b, e := Public(long[:n]); n != 32 && (len(b) != 0 || e != api.ErrLength) {
			t.Errorf("Public of %d bytes = %x, %d", n, b, e)
		}
	}
	for _, n := range []int{256 + 32, 1 << 16, 1<<16 + 32} {
		_, e := Multiply(make([]byte, n), sample(1))
		_, f := Multiply(sample(1), make([]byte, n))
		_, g := Public(make([]byte, n))
		_, h := Shared(sample(1), make([]byte, n))
		if e != api.ErrLength || f != api.ErrLength || g != api.ErrLength || h != api.ErrLength {
			t.Errorf("%d bytes: %d, %d, %d, %d", n, e, f, g, h)
		}
	}
	for _, b := range [][]byte{nil, {}} {
		_, e := Multiply(b, sample(1))
		_, f := Shared(sample(1), b)
		_, g := Public(b)
		if e != api.ErrLength || f != api.ErrLength || g != api.ErrLength {
			t.Errorf("no bytes: %d, %d, %d", e, f, g)
		}
	}
	// The length comes ahead of a result of 0.
	if b, e := Shared(make([]byte, 31), number(0)); len(b) != 0 || e != api.ErrLength {
		t.Errorf("Shared of a short scalar and the point 0 = %x, %d", b, e)
	}
	if b, e := Shared(sample(1), make([]byte, 31)); len(b) != 0 || e != api.ErrLength {
		t.Errorf("Shared of a short point 0 = %x, %d", b, e)
	}
}

// P14.2: the key pairs of RFC 7748, and public bytes that OpenSSL computed.
func TestPublic(t *testing.T) {
	for scalar, want := range map[string]string{
		"77076d0a7318a57d3c16c17251b26645df4c2f87ebc0992ab177fba51db92c2a": "8520f0098930a754748b7ddcb43ef75a0dbf3a0d26381af4eba4a98eaa9b4e6a",
		"5dab087e624a8a4b79e17f8b83800ee66f3bb1292618b6fd1c2f8b27ff88e0eb": "de9edb7d7b7dc1b4d35b61c2ece435373f8343c85b78674dadfc7e146f882b4f",
		wire.Hex(make([]byte, 32)):               "2fe57da347cd62431528daac5fbb290730fff684afc4cfc2ed90995f58cb3b74",
		wire.Hex(bytes.Repeat([]byte{255}, 32)):  "847c0d2c375234f365e660955187a3735a0f7613d1609d3a6a4d8c53aeaa5a22",
		wire.Hex(bytes.Repeat([]byte{0x55}, 32)): "38ab664bd86f77d7e66bdd9ae0792913a94fd8b33a1260027e4b46c1f4884c67",
		wire.Hex(bytes.Repeat([]byte{0xaa}, 32)): "14ca9e4d387bccf35746e0407daaacc6b28a4f8445ef5a5158894db983e24070",
		wire.Hex(sample(0)):                      "1eeac5b99234462ba5ca26e18be45051bc5a51b59d4847b15d0102f9a070a86f",
		wire.Hex(sample(1)):                      "a8706528813446f9ce6743d59255fb2fefe7a13c14f61cabf529cd3ea3660456",
		wire.Hex(sample(2)):                      "3adf3317aafb14d6f61910b8608782d640f759aea12adf834e532471b0a2d54d",
	} {
		if b := public(t, bytesOf32(t, scalar)); wire.Hex(b) != want {
			t.Errorf("Public(%s) = %x, want %s", scalar, b, want)
		}
	}
	for i := range 200 {
		if k := sample(i); !bytes.Equal(public(t, k), multiple(t, k, number(9))) {
			t.Errorf("Public(%x) = %x, want Multiply with 9: %x", k, public(t, k), multiple(t, k, number(9)))
		}
	}
}

// P14.2: the secret of RFC 7748, from both ends.
func TestShared(t *testing.T) {
	a := bytesOf32(t, "77076d0a7318a57d3c16c17251b26645df4c2f87ebc0992ab177fba51db92c2a")
	b := bytesOf32(t, "5dab087e624a8a4b79e17f8b83800ee66f3bb1292618b6fd1c2f8b27ff88e0eb")
	const want = "4a5d9d5ba4ce2de1728e3bf480350f25e07e21c947d19e3376f09b3c1e161742"
	for _, c := range [][2][]byte{{a, public(t, b)}, {b, public(t, a)}} {
		if s, e := Shared(c[0], c[1]); wire.Hex(s) != want || e != api.OK {
			t.Errorf("Shared(%x, %x) = %x, %d, want %s", c[0], c[1], s, e, want)
		}
	}
}

// P14.2: a secret with a single byte, at each place, is not 0.
func TestSharedIsNotZero(t *testing.T) {
	for place := range uint(32) {
		ok := false
		for v := int64(1); v < 128 && !ok; v++ {
			ok = reached(t, sample(5), new(big.Int).Lsh(big.NewInt(v), 8*place))
		}
		if !ok {
			t.Errorf("no secret with only the byte %d was reached", place)
		}
	}
}

// P14.3: both ends get the same secret, and multiples may be made in any order.
func TestAgreement(t *testing.T) {
	list := scalars()
	for i := range 60 {
		list = append(list, sample(i))
	}
	for i, x := range list {
		y := list[(i*7+3)%len(list)]
		a, e := Shared(x, public(t, y))
		b, f := Shared(y, public(t, x))
		if len(a) != 32 || !bytes.Equal(a, b) || e != api.OK || f != api.OK {
			t.Errorf("the scalars %x and %x share %x, %d and %x, %d", x, y, a, e, b, f)
		}
		if !bytes.Equal(a, multiple(t, x, public(t, y))) {
			t.Errorf("Shared(%x, %x) = %x is not Multiply", x, public(t, y), a)
		}
		u := sample(i + 70)
		if !bytes.Equal(multiple(t, x, multiple(t, y, u)), multiple(t, y, multiple(t, x, u))) {
			t.Errorf("the scalars %x and %x in both orders differ for %x", x, y, u)
		}
	}
}

// R2: arguments and their spare capacity stay as they are, behind lengths that are wrong as well.
func TestArgumentsStay(t *testing.T) {
	for _, n := range []int{0, 31, 32, 33} {
		for _, point := range []byte{0, 9, 255} {
			k, u := bytes.Repeat([]byte{255}, 80), bytes.Repeat([]byte{point}, 80)
			Multiply(k[:n], u[:n])
			Public(k[:n])
			Shared(k[:n], u[:n])
			if !bytes.Equal(k, bytes.Repeat([]byte{255}, 80)) || !bytes.Equal(u, bytes.Repeat([]byte{point}, 80)) {
				t.Errorf("%d bytes became %x and %x", n, k, u)
			}
		}
	}
}

// R2: who changes a result changes no later one.
func TestResultsAreNew(t *testing.T) {
	k, u := sample(1), sample(101)
	var first [3][]byte
	for i := range 3 {
		m, p := multiple(t, k, u), public(t, k)
		s, e := Shared(k, u)
		if e != api.OK {
			t.Errorf("Shared = %d", e)
		}
		for place, b := range [][]byte{m, p, s} {
			if i == 0 {
				first[place] = bytes.Clone(b)
			}
			if !bytes.Equal(b, first[place]) {
				t.Errorf("%d: %x became %x", place, first[place], b)
			}
			clear(b[:cap(b)])
		}
	}
	if !bytes.Equal(k, sample(1)) || !bytes.Equal(u, sample(101)) {
		t.Error("a result shares memory with an argument")
	}
}

// P14.1: one slice may be the scalar and the point.
func TestOneSlice(t *testing.T) {
	for i := range 20 {
		b := sample(i)
		check(t, b, b)
	}
}
