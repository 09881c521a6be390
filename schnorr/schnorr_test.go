package schnorr

import (
	"bytes"
	"crypto/hmac"
	"crypto/sha256"
	"encoding/binary"
	"math"
	"math/big"
	"reflect"
	"slices"
	"strings"
	"testing"

	"ipsecgate/api"
	"ipsecgate/wire"
)

// The numbers of the chapters, so that a test fails if those of the package change.
const (
	p    = 4611686018427377339
	q    = 2305843009213688669
	most = 1<<64 - 1
)

// sample returns n bytes that have no order.
func sample(n int) []byte {
	b := make([]byte, n)
	for i := range b {
		b[i] = byte(i*167 + 13)
	}
	return b
}

// mixed returns n numbers of all sizes that have no order.
func mixed(n int) []uint64 {
	list := make([]uint64, n)
	x := uint64(88172645463325252)
	for i := range list {
		x ^= x << 13
		x ^= x >> 7
		x ^= x << 17
		list[i] = x >> (i % 7 * i % 64)
	}
	return list
}

// secrets returns numbers that are secrets, and numbersBeside some that are none.
func secrets() []uint64 {
	list := []uint64{1, 2, 3, 255, 256, 1 << 31, 1 << 32, 1 << 60, q / 2, q/2 + 1, q - 3, q - 2, q - 1}
	for _, x := range mixed(40) {
		list = append(list, x%(q-1)+1)
	}
	return list
}

func numbersBeside() []uint64 {
	return []uint64{0, q, q + 1, q + 5, 2 * q, 2*q + 5, p, p + 5, 3*q + 5, 7*q + 5, 1 << 61, 1 << 62, 1 << 63, 1<<63 + 5, most - 1, most}
}

func bigOf(a uint64) *big.Int { return new(big.Int).SetUint64(a) }

// power computes a power modulo p with numbers of any size.
func power(a, e uint64) uint64 { return new(big.Int).Exp(bigOf(a), bigOf(e), bigOf(p)).Uint64() }

// isElement computes without any power: the elements are the squares.
func isElement(a uint64) bool { return a > 1 && a < p && big.Jacobi(bigOf(a), bigOf(p)) == 1 }

func bytes8(a uint64) []byte { return binary.BigEndian.AppendUint64(nil, a) }

// pairBytes returns the signature of e and s.
func pairBytes(e, s uint64) []byte { return binary.BigEndian.AppendUint64(bytes8(e), s) }

// nonce computes the number k of P15.1.
func nonce(secret uint64, message []byte) uint64 {
	h := hmac.New(sha256.New, bytes8(secret))
	h.Write(message)
	return binary.BigEndian.Uint64(h.Sum(nil))%(q-1) + 1
}

// hashed computes the number e of P15.1.
func hashed(r, y uint64, message []byte) uint64 {
	sum := sha256.Sum256(slices.Concat(bytes8(r), bytes8(y), message))
	return binary.BigEndian.Uint64(sum[:]) % q
}

// signedWith signs with any number k.
func signedWith(k, secret uint64, message []byte) []byte {
	e := hashed(power(4, k), power(4, secret), message)
	s := new(big.Int).Mul(bigOf(e), bigOf(secret))
	s.Add(s, bigOf(k)).Mod(s, bigOf(q))
	return pairBytes(e, s.Uint64())
}

// signOf computes Sign of a right secret with the library and numbers of any size.
func signOf(secret uint64, message []byte) []byte {
	return signedWith(nonce(secret, message), secret, message)
}

// verifyOf computes Verify in the same way.
func verifyOf(public uint64, message, signature []byte) api.Errno {
	if !isElement(public) {
		return api.ErrKey
	}
	if len(signature) != 16 {
		return api.ErrLength
	}
	e, s := binary.BigEndian.Uint64(signature), binary.BigEndian.Uint64(signature[8:])
	if e >= q || s >= q {
		return api.ErrRange
	}
	r := new(big.Int).Mul(bigOf(power(4, s)), bigOf(power(public, q-e)))
	if hashed(r.Mod(r, bigOf(p)).Uint64(), public, message) != e {
		return api.ErrSignature
	}
	return api.OK
}

// bytesOf returns the bytes of a text of wire.Hex.
func bytesOf(t *testing.T, text string) []byte {
	t.Helper()
	b, e := wire.Unhex(text)
	if e != api.OK {
		t.Fatalf("%s is not hexadecimal", text)
	}
	return b
}

// signed returns Sign of a right secret.
func signed(t *testing.T, secret uint64, message []byte) []byte {
	t.Helper()
	b, e := Sign(secret, message)
	if len(b) != 16 || e != api.OK {
		t.Fatalf("Sign(%d, %x) = %x, %d", secret, message, b, e)
	}
	return b
}

// checkVerify fails if Verify has another result than verifyOf, or than this error.
func checkVerify(t *testing.T, public uint64, message, signature []byte, want api.Errno) {
	t.Helper()
	if e := verifyOf(public, message, signature); e != want {
		t.Fatalf("the test expects %d, and computes %d", want, e)
	}
	if e := Verify(public, message, signature); e != want {
		t.Errorf("Verify(%d, %x, %x) = %d, want %d", public, message, signature, e, want)
	}
}

// flipped returns b with another bit.
func flipped(b []byte, bit int) []byte {
	b = bytes.Clone(b)
	b[bit/8] ^= 1 << (bit % 8)
	return b
}

// spare returns b with bytes behind it that are not its own.
func spare(b []byte) []byte {
	return append(bytes.Clone(b), bytes.Repeat([]byte{0xa5}, 64)...)[:len(b)]
}

// checkSpare fails if b or what is behind it has changed.
func checkSpare(t *testing.T, what string, b, want []byte) {
	t.Helper()
	if !bytes.Equal(b, want) || !bytes.Equal(b[len(b):len(b)+64], bytes.Repeat([]byte{0xa5}, 64)) {
		t.Errorf("%s: %x and behind it %x, was %x", what, b, b[len(b):len(b)+64], want)
	}
}

// P15.1: signatures that were computed elsewhere, with hashes below and above the moduli, and with zeros in front of e or s.
func TestSignatures(t *testing.T) {
	for _, c := range []struct {
		secret  uint64
		message string
		want    string
	}{
		{1, "", "100946b6045273b3017eb48cddc7f140"},
		{1, "a message", "1e20f2beb2f95f77181803149bad8a69"},
		{2, "", "14459e7902c514120d14ad4152c15bad"},
		{2, "abc", "068c1c4e07cad0461f6b1936d84b834a"},
		{3, "\x00", "007ee53b5b34319b00ee421782b8baa2"},
		{3, "\x00\x00", "118aaac3c7aeaa1d181444610931fcc1"},
		{9, "23095", "0000481e8d0d12c40e7c61e7abf8d438"},
		{9, "2126", "197d6778e2b64d5200007fa2b391a639"},
		{77, "14", "12c2402f171f8101056625fdfcdf58b3"},
		{77, "8", "141c4905902598d9153242d8bf70cb9d"},
		{77, "21", "1b8c89857a36f98d09db47e27df1a322"},
		{255, "abc", "13b0076c95166a0f12c11988bcf459c4"},
		{1 << 32, "abc", "04978f82c0dd1ec5118fa19f33dade6a"},
		{1 << 60, "abc", "1275a27533c61c761c20d8b2e6739666"},
		{(q - 1) / 2, "abc", "0f93a2d699bd0165168d5c518f26f591"},
		{0x0123456789abcdef, "abc", "088514bd049c1ad91ec2d00b261f0424"},
		{q - 2, "abc", "1b08d074556253a904cf7f50038bbdc7"},
		{q - 1, "", "155ed99aefc6982303f6af89a30523ef"},
		{q - 1, "abc", "1d6bb191e10b3dc70e835a5087c2936d"},
		{5, string(sample(63)), "1db97ee5cf782ddd1cb79285304b5e97"},
		{5, string(sample(64)), "16bbbbc56bdebdbb15628e63f97221bb"},
		{5, string(sample(1000)), "0c31828e8d55c4620253d4da3b89a144"},
		{12345678901234, string(sample(70000)), "121a4859c489451d1b440ed85d50eea0"},
	} {
		b := signed(t, c.secret, []byte(c.message))
		if wire.Hex(b) != c.want {
			t.Errorf("Sign(%d, %d bytes) = %x, want %s", c.secret, len(c.message), b, c.want)
		}
		checkVerify(t, power(4, c.secret), []byte(c.message), bytesOf(t, c.want), api.OK)
	}
}

// P15.1: all sizes of secrets, and all lengths of messages up to some blocks of the hash.
func TestSign(t *testing.T) {
	for _, secret := range secrets() {
		for _, n := range []int{0, 1, 8, 40, 100} {
			if b := signed(t, secret, sample(n)); !bytes.Equal(b, signOf(secret, sample(n))) {
				t.Errorf("Sign(%d, %d bytes) = %x", secret, n, b)
			}
		}
	}
	for n := range 300 {
		for _, message := range [][]byte{sample(n), make([]byte, n)} {
			if b := signed(t, 987654321, message); !bytes.Equal(b, signOf(987654321, message)) {
				t.Errorf("Sign of %d bytes = %x", n, b)
			}
		}
	}
	if b := signed(t, 5, nil); !bytes.Equal(b, signed(t, 5, []byte{})) {
		t.Errorf("Sign of nothing = %x", b)
	}
}

// P15.1: numbers that are no secrets, among them those that are secrets modulo q.
func TestNoSecrets(t *testing.T) {
	for _, secret := range numbersBeside() {
		for _, message := range [][]byte{nil, {}, {1}, sample(100)} {
			if b, e := Sign(secret, message); len(b) != 0 || e != api.ErrKey {
				t.Errorf("Sign(%d, %x) = %x, %d, want ErrKey", secret, message, b, e)
			}
		}
	}
}

// P15.2, P15.6: what Sign returns holds for the key of the secret, and for no other key or message.
func TestVerify(t *testing.T) {
	list := secrets()
	for i, secret := range list {
		message := sample(i * 5)
		b := signed(t, secret, message)
		checkVerify(t, power(4, secret), message, b, api.OK)
		checkVerify(t, power(4, secret+1+uint64(i)), message, b, api.ErrSignature)
		checkVerify(t, power(4, q-secret), message, b, api.ErrSignature)
		checkVerify(t, power(4, secret), append(sample(i*5), 0), b, api.ErrSignature)
		checkVerify(t, power(4, secret), append([]byte{0}, message...), b, api.ErrSignature)
		if i > 0 {
			checkVerify(t, power(4, secret), message[:len(message)-1], b, api.ErrSignature)
			checkVerify(t, power(4, secret), message[1:], b, api.ErrSignature)
			checkVerify(t, power(4, secret), nil, b, api.ErrSignature)
		}
	}
}

// P15.2: a signature holds whatever k it was made with, also if its r is 1.
func TestOtherNonces(t *testing.T) {
	for i, secret := range secrets() {
		for _, k := range append([]uint64{0, 1, 2, q - 2, q - 1}, mixed(5)...) {
			message := sample(i)
			checkVerify(t, power(4, secret), message, signedWith(k%q, secret, message), api.OK)
		}
	}
}

// P15.2: keys that are no elements are found first, then a wrong length, then numbers that are too great, the rest last.
func TestVerifyErrors(t *testing.T) {
	message, good := []byte("abc"), signOf(5, []byte("abc"))
	right := binary.BigEndian.Uint64(good[8:])
	short := [][]byte{nil, {}, {0}, good[:8], good[:15], good[1:], append(bytes.Clone(good), 0), append([]byte{0}, good...), sample(32), append(bytes.Clone(good), good...)}
	great := [][]byte{pairBytes(q, 0), pairBytes(0, q), pairBytes(q, q), pairBytes(most, most), pairBytes(q, right), pairBytes(most, 0), pairBytes(1<<63, 1)}
	wrong := [][]byte{pairBytes(0, 0), pairBytes(0, right), pairBytes(0, 1), pairBytes(1, 0), pairBytes(q-1, q-1), pairBytes(0, q-1), pairBytes(q-1, 0), pairBytes(right, 5)}
	for _, public := range []uint64{0, 1, 2, 6, 7, p - 1, p, p + 3, p + 1024, 2*p + 4, 1 << 63, most} {
		for _, l := range [][][]byte{short, great, wrong, {good}} {
			for _, signature := range l {
				checkVerify(t, public, message, signature, api.ErrKey)
			}
		}
	}
	for _, public := range []uint64{3, 4, 1024, q, p - 2} {
		for _, signature := range short {
			checkVerify(t, public, message, signature, api.ErrLength)
		}
		for _, signature := range great {
			checkVerify(t, public, message, signature, api.ErrRange)
		}
		for _, signature := range wrong {
			checkVerify(t, public, message, signature, api.ErrSignature)
		}
	}
	for n := range 300 {
		if n != 16 {
			checkVerify(t, 1024, message, make([]byte, n), api.ErrLength)
		}
	}
}

// P15.2: e and s are not taken modulo q.
func TestCongruent(t *testing.T) {
	for i, secret := range secrets() {
		message := sample(i)
		b := signOf(secret, message)
		e, s := binary.BigEndian.Uint64(b), binary.BigEndian.Uint64(b[8:])
		for m := uint64(1); m <= 7; m++ {
			checkVerify(t, power(4, secret), message, pairBytes(e+m*q, s), api.ErrRange)
			checkVerify(t, power(4, secret), message, pairBytes(e, s+m*q), api.ErrRange)
			checkVerify(t, power(4, secret), message, pairBytes(e+m*q, s+m*q), api.ErrRange)
		}
		checkVerify(t, power(4, secret), message, pairBytes(s, e), api.ErrSignature)
		checkVerify(t, power(4, secret), message, pairBytes(q-e, s), api.ErrSignature)
		checkVerify(t, power(4, secret), message, pairBytes(e, q-s), api.ErrSignature)
	}
}

// P15.2, P15.6: each bit of the signature, the message and the key counts.
func TestChangedBits(t *testing.T) {
	for _, secret := range []uint64{1, 5, 1 << 40, q - 1} {
		message := sample(70)
		b, y := signed(t, secret, message), power(4, secret)
		for bit := range 8 * len(b) {
			other := flipped(b, bit)
			want := api.ErrSignature
			if binary.BigEndian.Uint64(other) >= q || binary.BigEndian.Uint64(other[8:]) >= q {
				want = api.ErrRange
			}
			checkVerify(t, y, message, other, want)
		}
		for bit := range 8 * len(message) {
			checkVerify(t, y, flipped(message, bit), b, api.ErrSignature)
		}
		for bit := range 64 {
			want := api.ErrSignature
			if !isElement(y ^ 1<<bit) {
				want = api.ErrKey
			}
			checkVerify(t, y^1<<bit, message, b, want)
		}
	}
}

// named returns a certificate for the key of a secret that is good from 10 to 20.
func named(name string, secret uint64, authority bool) api.Certificate {
	return api.Certificate{Name: name, Key: power(4, secret), From: 10, To: 20, Authority: authority}
}

// bodyOf computes Body without any checks.
func bodyOf(c api.Certificate) []byte {
	b := append([]byte{byte(len(c.Name))}, c.Name...)
	b = binary.BigEndian.AppendUint64(b, c.Key)
	b = binary.BigEndian.AppendUint32(b, uint32(c.From))
	b = binary.BigEndian.AppendUint32(b, uint32(c.To))
	if c.Authority {
		return append(b, 1)
	}
	return append(b, 0)
}

// bodyError computes the error of Body.
func bodyError(c api.Certificate) api.Errno {
	if len(c.Name) < 1 || len(c.Name) > 16 || strings.ContainsFunc(c.Name, func(r rune) bool { return r < '!' || r > '~' }) {
		return api.ErrName
	}
	if !isElement(c.Key) {
		return api.ErrKey
	}
	if c.From < 0 || c.From > math.MaxInt32 || c.To < 0 || c.To > math.MaxInt32 || c.To < c.From {
		return api.ErrRange
	}
	return api.OK
}

// issued returns a certificate that the owner of a secret signed, also if Body has an error.
func issued(c api.Certificate, secret uint64) api.Certificate {
	c.Signature = signOf(secret, bodyOf(c))
	return c
}

// checkBody fails if Body, Issue or Encode does not have this error, or another result than what the chapter says.
func checkBody(t *testing.T, c api.Certificate, want api.Errno) {
	t.Helper()
	if e := bodyError(c); e != want {
		t.Fatalf("the test expects %d for %+v, and computes %d", want, c, e)
	}
	var body, encoded []byte
	var signed api.Certificate
	if want == api.OK {
		body, signed = bodyOf(c), issued(c, 9)
		encoded = append(bodyOf(c), signed.Signature...)
	}
	if b, e := Body(c); !bytes.Equal(b, body) || e != want {
		t.Errorf("Body(%+v) = %x, %d, want %x, %d", c, b, e, body, want)
	}
	if x, e := Issue(c, 9); !reflect.DeepEqual(x, signed) || e != want {
		t.Errorf("Issue(%+v) = %+v, %d, want %+v, %d", c, x, e, signed, want)
	}
	if b, e := Encode([]api.Certificate{issued(c, 9)}); !bytes.Equal(b, encoded) || e != want {
		t.Errorf("Encode(%+v) = %x, %d, want %x, %d", c, b, e, encoded, want)
	}
}

// P15.3: bodies and signatures that were computed elsewhere.
func TestBodies(t *testing.T) {
	for _, c := range []struct {
		c               api.Certificate
		secret          uint64
		body, signature string
	}{
		{api.Certificate{Name: "peer", Key: 1024, From: 10, To: 20}, 7, "047065657200000000000004000000000a0000001400", "19c127fdef610a1914596d4a49a8e9f6"},
		{api.Certificate{Name: "issuer", Key: 16384, From: 10, To: 20, Authority: true}, 11, "0669737375657200000000000040000000000a0000001401", "06ce452065850f7e0960bc932ca11b62"},
		{api.Certificate{Name: "root", Key: 4194304, From: 10, To: 20, Authority: true}, 13, "04726f6f7400000000004000000000000a0000001401", "12c5e8f4c5e87f350a0f843495bbd7a1"},
		{api.Certificate{Name: "!", Key: 3}, 1, "01210000000000000003000000000000000000", "1c753aa5d41ba8d414a4f358d204e507"},
		{api.Certificate{Name: "~~~~~~~~~~~~~~~~", Key: p - 2, To: 1<<31 - 1, Authority: true}, q - 1, "107e7e7e7e7e7e7e7e7e7e7e7e7e7e7e7e3fffffffffffd6b9000000007fffffff01", "0b5466367d8f64770d64e045c99e41ef"},
		{api.Certificate{Name: "gw-1.example.org", Key: q, From: 1<<31 - 1, To: 1<<31 - 1}, 0x0123456789abcdef, "1067772d312e6578616d706c652e6f72671fffffffffffeb5d7fffffff7fffffff00", "1c89e3460d62e7b41874cb9310b8cdbc"},
	} {
		if b, e := Body(c.c); wire.Hex(b) != c.body || e != api.OK {
			t.Errorf("Body(%+v) = %x, %d, want %s", c.c, b, e, c.body)
		}
		want := c.c
		want.Signature = bytesOf(t, c.signature)
		if x, e := Issue(c.c, c.secret); !reflect.DeepEqual(x, want) || e != api.OK {
			t.Errorf("Issue(%+v) = %+v, %d, want %s", c.c, x, e, c.signature)
		}
	}
}

// P15.3: the lengths of names, and each byte at each place.
func TestNames(t *testing.T) {
	for n := range 600 {
		want := api.ErrName
		if 1 <= n && n <= 16 {
			want = api.OK
		}
		checkBody(t, named(strings.Repeat("n", n), 5, true), want)
	}
	for x := range 256 {
		want := api.ErrName
		if 33 <= x && x <= 126 {
			want = api.OK
		}
		for _, place := range []int{0, 1, 8, 15} {
			name := []byte("abcdefghijklmnop")
			name[place] = byte(x)
			checkBody(t, named(string(name), 5, false), want)
		}
		checkBody(t, named(string([]byte{byte(x)}), 5, false), want)
	}
	for _, name := range []string{" a", "a ", "a\n", "\x00", "a\x00b", "\u00e9", "\xff", "\u4e00"} {
		checkBody(t, named(name, 5, false), api.ErrName)
	}
}

// P15.3: keys that are elements, and numbers that are none.
func TestKeys(t *testing.T) {
	for _, key := range append([]uint64{0, 1, 2, 3, 4, 6, 7, 9, q, q + 1, p - 2, p - 1, p, p + 3, p + 4, 2*p + 4, 1 << 62, 1 << 63, most}, mixed(200)...) {
		want := api.ErrKey
		if isElement(key) {
			want = api.OK
		}
		checkBody(t, api.Certificate{Name: "a", Key: key, To: 1}, want)
	}
}

// P15.3: the times at both ends, and in both orders.
func TestTimes(t *testing.T) {
	list := []int{0, 1, 255, 256, 65535, 65536, 1<<24 - 1, 1 << 24, 0x01020304, 1<<31 - 2, 1<<31 - 1, 1 << 31, 1<<31 + 1, 1<<32 - 1, 1 << 32, 1<<32 + 5, -1, -2, -1 << 31, -1<<32 + 5, math.MaxInt, math.MinInt}
	for _, from := range list {
		for _, to := range list {
			want := api.ErrRange
			if 0 <= from && from <= to && to <= 1<<31-1 {
				want = api.OK
			}
			for _, authority := range []bool{false, true} {
				checkBody(t, api.Certificate{Name: "a", Key: 4, From: from, To: to, Authority: authority}, want)
			}
		}
	}
}

// P15.3: a wrong name is found ahead of a wrong key, and this ahead of wrong times.
func TestBodyErrors(t *testing.T) {
	for _, name := range []string{"a", "", "a b"} {
		for _, key := range []uint64{4, 0, 2} {
			for _, times := range [][2]int{{0, 0}, {-1, 0}, {0, -1}, {2, 1}, {0, 1 << 31}} {
				c := api.Certificate{Name: name, Key: key, From: times[0], To: times[1]}
				checkBody(t, c, bodyError(c))
			}
		}
	}
	checkBody(t, api.Certificate{}, api.ErrName)
	checkBody(t, api.Certificate{Name: "a"}, api.ErrKey)
	checkBody(t, api.Certificate{Name: "a", Key: 4, From: -1}, api.ErrRange)
}

// P15.3: errors of Body come ahead of those of Sign, and a signature that is there does not matter.
func TestIssue(t *testing.T) {
	for _, secret := range numbersBeside() {
		for _, c := range []struct {
			c    api.Certificate
			want api.Errno
		}{{api.Certificate{}, api.ErrName}, {api.Certificate{Name: "a", Key: 4, From: 1}, api.ErrRange}, {named("a", 5, true), api.ErrKey}, {issued(named("a", 5, true), 7), api.ErrKey}} {
			if x, e := Issue(c.c, secret); !reflect.DeepEqual(x, api.Certificate{}) || e != c.want {
				t.Errorf("Issue(%+v, %d) = %+v, %d, want %d", c.c, secret, x, e, c.want)
			}
		}
	}
	for _, secret := range secrets() {
		c := named("a", 5, true)
		want := issued(c, secret)
		for _, old := range [][]byte{nil, {}, {1}, sample(16), want.Signature, sample(100)} {
			c.Signature = old
			if b, e := Body(c); !bytes.Equal(b, bodyOf(c)) || e != api.OK {
				t.Errorf("Body(%+v) = %x, %d", c, b, e)
			}
			if x, e := Issue(c, secret); !reflect.DeepEqual(x, want) || e != api.OK {
				t.Errorf("Issue(%+v, %d) = %+v, %d", c, secret, x, e)
			}
		}
	}
}

// chain returns n certificates, for the secrets 5, 6, .. of which each but the first one signed the certificate ahead of it. The anchor is the key of 5 + n.
func chain(n int) []api.Certificate {
	var l []api.Certificate
	for i := range uint64(n) {
		l = append(l, issued(named(string([]byte{'p', byte('0' + i%10)}), 5+i, i > 0), 6+i))
	}
	return l
}

// chainError computes the error of Chain, from the first certificate on.
func chainError(l []api.Certificate, anchor uint64, now int) api.Errno {
	if len(l) == 0 {
		return api.ErrMissing
	}
	if len(l) > 6 {
		return api.ErrTooMany
	}
	for i, c := range l {
		key := anchor
		if i < len(l)-1 {
			key = l[i+1].Key
		}
		if e := bodyError(c); e != api.OK {
			return e
		}
		if i > 0 && !c.Authority {
			return api.ErrPolicy
		}
		if c.From > now || now > c.To {
			return api.ErrExpired
		}
		if e := verifyOf(key, bodyOf(c), c.Signature); e != api.OK {
			return e
		}
	}
	return api.OK
}

// checkChain fails if Chain does not have this error, or not the first certificate's name and key.
func checkChain(t *testing.T, what string, l []api.Certificate, anchor uint64, now int, want api.Errno) {
	t.Helper()
	if e := chainError(l, anchor, now); e != want {
		t.Fatalf("%s: the test expects %d, and computes %d", what, want, e)
	}
	var first api.Certificate
	if want == api.OK {
		first = l[0]
	}
	if name, key, e := Chain(l, anchor, now); name != first.Name || key != first.Key || e != want {
		t.Errorf("%s: Chain(%+v, %d, %d) = %q, %d, %d, want %d", what, l, anchor, now, name, key, e, want)
	}
}

// P15.4: chains of all lengths, with each of the keys as the anchor.
func TestChain(t *testing.T) {
	for n := range 20 {
		l := chain(n)
		for secret := uint64(1); secret < 30; secret++ {
			want := api.ErrSignature
			switch {
			case n == 0:
				want = api.ErrMissing
			case n > 6:
				want = api.ErrTooMany
			case secret == uint64(5+n):
				want = api.OK
			}
			checkChain(t, "length", l, power(4, secret), 15, want)
		}
	}
}

// P15.4: an empty chain and one that is too long are found ahead of all else.
func TestChainLengths(t *testing.T) {
	for _, anchor := range []uint64{0, 1, 1024} {
		for _, now := range []int{-1, 15, math.MaxInt} {
			checkChain(t, "nil", nil, anchor, now, api.ErrMissing)
			checkChain(t, "empty", []api.Certificate{}, anchor, now, api.ErrMissing)
			checkChain(t, "cut", chain(3)[:0], anchor, now, api.ErrMissing)
			for _, n := range []int{7, 8, 256, 257, 262, 1000} {
				checkChain(t, "zeros", make([]api.Certificate, n), anchor, now, api.ErrTooMany)
			}
			checkChain(t, "six zeros", make([]api.Certificate, 6), anchor, now, api.ErrName)
			checkChain(t, "zeros behind a chain", append(chain(6), api.Certificate{}), anchor, now, api.ErrTooMany)
		}
	}
}

// P15.4: a certificate is good at both ends of its time, and those of a chain have to be good at once.
func TestExpired(t *testing.T) {
	for n := 1; n <= 6; n++ {
		anchor := power(4, uint64(5+n))
		for now, want := range map[int]api.Errno{
			math.MinInt: api.ErrExpired, -1: api.ErrExpired, 0: api.ErrExpired, 9: api.ErrExpired, 10: api.OK, 11: api.OK, 20: api.OK,
			21: api.ErrExpired, 1 << 31: api.ErrExpired, 1<<32 + 15: api.ErrExpired, math.MaxInt: api.ErrExpired,
		} {
			checkChain(t, "now", chain(n), anchor, now, want)
		}
		for i := range n {
			for _, times := range [][2]int{{0, 12}, {18, 30}, {15, 15}, {0, 1<<31 - 1}} {
				l := chain(n)
				l[i].From, l[i].To = times[0], times[1]
				l[i] = issued(l[i], uint64(6+i))
				for now := range 40 {
					want := api.ErrExpired
					if max(10, times[0]) <= now && now <= min(20, times[1]) || n == 1 && times[0] <= now && now <= times[1] {
						want = api.OK
					}
					checkChain(t, "other times", l, anchor, now, want)
				}
			}
		}
	}
	all := issued(api.Certificate{Name: "a", Key: 4, To: 1<<31 - 1}, 7)
	for now, want := range map[int]api.Errno{-1: api.ErrExpired, 0: api.OK, 1<<31 - 1: api.OK, 1 << 31: api.ErrExpired} {
		checkChain(t, "all times", []api.Certificate{all}, power(4, 7), now, want)
	}
}

// P15.4: every certificate but the first one needs authority; the first one may have it.
func TestAuthority(t *testing.T) {
	for n := 1; n <= 6; n++ {
		for mask := range 1 << n {
			l := chain(n)
			for i := range l {
				l[i].Authority = mask>>i&1 == 1
				l[i] = issued(l[i], uint64(6+i))
			}
			want := api.ErrPolicy
			if mask|1 == 1<<n-1 {
				want = api.OK
			}
			checkChain(t, "authority", l, power(4, uint64(5+n)), 15, want)
		}
	}
}

// flaws are changes that make a certificate wrong, in the order in which they are found.
func flaws() []func(c *api.Certificate) {
	return []func(c *api.Certificate){
		func(c *api.Certificate) { c.Name = "" },
		func(c *api.Certificate) { c.Key = 2 },
		func(c *api.Certificate) { c.To = 1 << 31 },
		func(c *api.Certificate) { c.Authority = false },
		func(c *api.Certificate) { c.From = 16 },
		func(c *api.Certificate) { c.To = 14 },
		func(c *api.Certificate) { c.Key = power(4, 99) },
		func(c *api.Certificate) { c.Signature = c.Signature[1:] },
		func(c *api.Certificate) { c.Signature = bytes.Repeat([]byte{255}, len(c.Signature)) },
		func(c *api.Certificate) { c.Signature = flipped(c.Signature, 0) },
	}
}

// flawed returns certificates with any of two flaws, signed behind a change of the body and ahead of one of the signature.
func flawed(c api.Certificate, secret uint64) []api.Certificate {
	l, list := []api.Certificate{c}, flaws()
	for i := range list {
		for k := i; k < len(list); k++ {
			x := c
			for _, flaw := range []int{i, k} {
				if flaw < 7 {
					list[flaw](&x)
				}
			}
			x = issued(x, secret)
			for _, flaw := range []int{i, k} {
				if flaw >= 7 {
					list[flaw](&x)
				}
			}
			l = append(l, x)
		}
	}
	return l
}

// P15.4: the first wrong certificate counts, and its first error.
func TestChainErrors(t *testing.T) {
	seen := map[api.Errno]int{}
	check := func(l []api.Certificate, anchor uint64) {
		t.Helper()
		want := chainError(l, anchor, 15)
		seen[want]++
		checkChain(t, "flaws", l, anchor, 15, want)
	}
	good := chain(3)
	first, second, third := flawed(good[0], 6), flawed(good[1], 7), flawed(good[2], 8)
	for _, a := range first {
		check([]api.Certificate{a}, power(4, 6))
		check([]api.Certificate{a}, 1)
		for _, b := range second {
			check([]api.Certificate{a, b}, power(4, 7))
			check([]api.Certificate{a, b, good[2]}, power(4, 8))
		}
	}
	for _, b := range second {
		for _, c := range third {
			check([]api.Certificate{good[0], b, c}, power(4, 8))
			check([]api.Certificate{good[0], b, c}, 2)
		}
	}
	for _, e := range []api.Errno{api.OK, api.ErrName, api.ErrKey, api.ErrRange, api.ErrPolicy, api.ErrExpired, api.ErrLength, api.ErrSignature} {
		if seen[e] == 0 {
			t.Errorf("no chain had the error %d", e)
		}
	}
}

// P15.4: which of two errors comes first, written out.
func TestChainOrder(t *testing.T) {
	anchor := power(4, 8)
	for i, c := range []struct {
		change func(l []api.Certificate)
		anchor uint64
		want   api.Errno
	}{
		{func(l []api.Certificate) {}, anchor, api.OK},
		{func(l []api.Certificate) {}, 1, api.ErrKey},
		{func(l []api.Certificate) { l[0].Signature = nil; l[1].Name = "" }, anchor, api.ErrLength},
		{func(l []api.Certificate) { l[0].Name = ""; l[1].Authority = false }, anchor, api.ErrName},
		{func(l []api.Certificate) { l[1].Name = ""; l[1].Authority = false }, anchor, api.ErrName},
		{func(l []api.Certificate) { l[1].Authority = false; l[1].To = 11 }, anchor, api.ErrPolicy},
		{func(l []api.Certificate) { l[1].To = 11; l[1].Signature = nil }, anchor, api.ErrExpired},
		{func(l []api.Certificate) { l[1].To = 11; l[2].Name = "" }, anchor, api.ErrExpired},
		// The key of the second one is wrong for the signature of the first one ahead of its name.
		{func(l []api.Certificate) { l[1].Name, l[1].Key = "", 2 }, anchor, api.ErrKey},
		{func(l []api.Certificate) { l[1].Key = 16 }, anchor, api.ErrSignature},
		{func(l []api.Certificate) { l[2].Signature = nil }, 1, api.ErrKey},
		{func(l []api.Certificate) { l[2].Signature = nil }, anchor, api.ErrLength},
		{func(l []api.Certificate) { l[2].Signature = pairBytes(q, 0) }, anchor, api.ErrRange},
		{func(l []api.Certificate) { l[0].Authority = true }, anchor, api.ErrSignature},
		{func(l []api.Certificate) { l[0], l[1] = l[1], l[0] }, anchor, api.ErrSignature},
		{func(l []api.Certificate) { l[1] = l[2] }, anchor, api.ErrSignature},
		{func(l []api.Certificate) { l[2] = l[1] }, anchor, api.ErrSignature},
	} {
		l := chain(3)
		c.change(l)
		if e := chainError(l, c.anchor, 15); e != c.want {
			t.Errorf("%d: the test computes %d, want %d", i, e, c.want)
		}
		checkChain(t, "order", l, c.anchor, 15, c.want)
	}
}

// P15.6: Chain accepts what Issue made, and refuses it for each change of a body.
func TestIssuedChain(t *testing.T) {
	list := secrets()
	for n := 1; n <= 6; n++ {
		var l []api.Certificate
		for i := range n {
			c, e := Issue(named("abcdefghijklmnop"[:1+(i+n)%16], list[i*n], i > 0), list[(i+1)*n])
			if e != api.OK {
				t.Fatalf("Issue = %d", e)
			}
			l = append(l, c)
		}
		anchor := power(4, list[n*n])
		checkChain(t, "issued", l, anchor, 15, api.OK)
		for i := range l {
			for _, change := range []func(c *api.Certificate){
				func(c *api.Certificate) { c.Name += "x" }, func(c *api.Certificate) { c.Name = "~" + c.Name[1:] }, func(c *api.Certificate) { c.Key = 9 },
				func(c *api.Certificate) { c.From-- }, func(c *api.Certificate) { c.From++ }, func(c *api.Certificate) { c.To-- }, func(c *api.Certificate) { c.To++ },
			} {
				other := slices.Clone(l)
				change(&other[i])
				checkChain(t, "changed", other, anchor, 15, api.ErrSignature)
			}
		}
		l[0].Authority = true
		checkChain(t, "changed", l, anchor, 15, api.ErrSignature)
	}
}

// decodeOf computes Decode.
func decodeOf(b []byte) ([]api.Certificate, api.Errno) {
	var l []api.Certificate
	for len(b) > 0 {
		n := int(b[0])
		if len(b) < n+34 || b[n+17] > 1 {
			return nil, api.ErrSyntax
		}
		c := api.Certificate{
			Name: string(b[1 : n+1]), Key: binary.BigEndian.Uint64(b[n+1:]), From: int(binary.BigEndian.Uint32(b[n+9:])), To: int(binary.BigEndian.Uint32(b[n+13:])),
			Authority: b[n+17] == 1, Signature: b[n+18 : n+34],
		}
		if bodyError(c) != api.OK {
			return nil, api.ErrSyntax
		}
		l, b = append(l, c), b[n+34:]
	}
	if len(l) > 6 {
		return nil, api.ErrTooMany
	}
	return l, api.OK
}

// checkDecode fails if Decode has another result than decodeOf, or Encode does not return the bytes.
func checkDecode(t *testing.T, b []byte) {
	t.Helper()
	want, code := decodeOf(b)
	l, e := Decode(b)
	if len(l) != len(want) || len(l) > 0 && !reflect.DeepEqual(l, want) || e != code {
		t.Errorf("Decode(%x) = %+v, %d, want %+v, %d", b, l, e, want, code)
	}
	if e != api.OK {
		return
	}
	if again, e := Encode(l); !bytes.Equal(again, b) || e != api.OK {
		t.Errorf("Encode of Decode(%x) = %x, %d", b, again, e)
	}
}

// encoded returns the bytes of certificates that are right.
func encoded(l []api.Certificate) []byte {
	var b []byte
	for _, c := range l {
		b = append(append(b, bodyOf(c)...), c.Signature...)
	}
	return b
}

// P15.5: bytes that were computed elsewhere, both ways.
func TestEncoded(t *testing.T) {
	const text = "047065657200000000000004000000000a0000001400" + "19c127fdef610a1914596d4a49a8e9f6" +
		"0669737375657200000000000040000000000a0000001401" + "06ce452065850f7e0960bc932ca11b62" +
		"107e7e7e7e7e7e7e7e7e7e7e7e7e7e7e7e3fffffffffffd6b9000000007fffffff01" + "ffffffffffffffffffffffffffffffff" +
		"01210000000000000003000000000000000000" + "00000000000000000000000000000000"
	l := []api.Certificate{
		{Name: "peer", Key: 1024, From: 10, To: 20, Signature: bytesOf(t, "19c127fdef610a1914596d4a49a8e9f6")},
		{Name: "issuer", Key: 16384, From: 10, To: 20, Authority: true, Signature: bytesOf(t, "06ce452065850f7e0960bc932ca11b62")},
		{Name: "~~~~~~~~~~~~~~~~", Key: p - 2, To: 1<<31 - 1, Authority: true, Signature: bytes.Repeat([]byte{255}, 16)},
		{Name: "!", Key: 3, Signature: make([]byte, 16)},
	}
	if b, e := Encode(l); wire.Hex(b) != text || e != api.OK {
		t.Errorf("Encode = %x, %d", b, e)
	}
	if got, e := Decode(bytesOf(t, text)); !reflect.DeepEqual(got, l) || e != api.OK {
		t.Errorf("Decode = %+v, %d", got, e)
	}
	checkDecode(t, bytesOf(t, text))
}

// P15.5, P15.6: names of all lengths, each ahead of and behind each other.
func TestEncodedNames(t *testing.T) {
	const name = "abcdefghijklmnop"
	for i := range 16 {
		for k := range 16 {
			l := []api.Certificate{issued(named(name[i:], 5, true), 6), issued(named(name[:k+1], 6, false), 7), issued(named(name[i:], 7, true), 8)}
			b := encoded(l)
			if got, e := Decode(b); !reflect.DeepEqual(got, l) || e != api.OK {
				t.Errorf("Decode(%x) = %+v, %d", b, got, e)
			}
			checkDecode(t, b)
		}
	}
}

// P15.5, P15.6: lists of all lengths, an empty one and ones that are too long as well.
func TestCounts(t *testing.T) {
	for n := range 20 {
		l, b := chain(n), encoded(chain(n))
		got, e := Encode(l)
		back, code := Decode(b)
		if n > 6 {
			if len(got) != 0 || e != api.ErrTooMany || len(back) != 0 || code != api.ErrTooMany {
				t.Errorf("%d: Encode = %x, %d, Decode = %+v, %d", n, got, e, back, code)
			}
			continue
		}
		if !bytes.Equal(got, b) || e != api.OK {
			t.Errorf("%d: Encode = %x, %d", n, got, e)
		}
		if len(back) != n || n > 0 && !reflect.DeepEqual(back, l) || code != api.OK {
			t.Errorf("%d: Decode = %+v, %d", n, back, code)
		}
	}
	for _, none := range [][]byte{nil, {}, sample(50)[:0]} {
		if l, e := Decode(none); len(l) != 0 || e != api.OK {
			t.Errorf("Decode of nothing = %+v, %d", l, e)
		}
	}
	for _, none := range [][]api.Certificate{nil, {}, chain(1)[:0]} {
		if b, e := Encode(none); len(b) != 0 || e != api.OK {
			t.Errorf("Encode of nothing = %x, %d", b, e)
		}
	}
}

// P15.5: too many certificates are found first, then the errors of each certificate in order.
func TestEncodeErrors(t *testing.T) {
	long := func(n int) []byte { return make([]byte, n) }
	for i, c := range []struct {
		count  int
		change func(l []api.Certificate)
		want   api.Errno
	}{
		{7, func(l []api.Certificate) { l[0].Name = "" }, api.ErrTooMany},
		{7, func(l []api.Certificate) { l[0].Signature = nil }, api.ErrTooMany},
		{262, func(l []api.Certificate) {}, api.ErrTooMany},
		{6, func(l []api.Certificate) { l[5].Key = 1 }, api.ErrKey},
		{6, func(l []api.Certificate) { l[5].From = 21 }, api.ErrRange},
		{6, func(l []api.Certificate) { l[5].Signature = nil }, api.ErrLength},
		{3, func(l []api.Certificate) { l[0].Signature = long(0) }, api.ErrLength},
		{3, func(l []api.Certificate) { l[1].Signature = long(15) }, api.ErrLength},
		{3, func(l []api.Certificate) { l[2].Signature = long(17) }, api.ErrLength},
		{3, func(l []api.Certificate) { l[2].Signature = long(32) }, api.ErrLength},
		{3, func(l []api.Certificate) { l[2].Signature = long(16 + 256) }, api.ErrLength},
		{3, func(l []api.Certificate) { l[2].Signature = long(16) }, api.OK},
		{3, func(l []api.Certificate) { l[1].Name = ""; l[1].Signature = nil }, api.ErrName},
		{3, func(l []api.Certificate) { l[0].Signature = nil; l[1].Name = "" }, api.ErrLength},
		{3, func(l []api.Certificate) { l[0].Name = ""; l[1].Signature = nil }, api.ErrName},
		{3, func(l []api.Certificate) { l[1].Key = 0; l[2].Name = "" }, api.ErrKey},
		// Neither times nor authority nor the number of a signature matter here.
		{3, func(l []api.Certificate) {
			l[0].Authority, l[1].Authority, l[1].To, l[2].Signature = true, false, 10, pairBytes(most, most)
		}, api.OK},
	} {
		l := chain(c.count)
		c.change(l)
		var want []byte
		if c.want == api.OK {
			want = encoded(l)
		}
		if b, e := Encode(l); !bytes.Equal(b, want) || e != c.want {
			t.Errorf("%d: Encode = %x, %d, want %d", i, b, e, c.want)
		}
	}
}

// P15.5: all beginnings, all ends, and bytes behind the last certificate.
func TestCutBytes(t *testing.T) {
	for n := 1; n <= 8; n++ {
		b := encoded(chain(n))
		for i := range b {
			checkDecode(t, b[:i])
			checkDecode(t, b[i:])
			checkDecode(t, slices.Concat(b[:i], b[i+1:]))
			checkDecode(t, slices.Concat(b[:i], []byte{0}, b[i:]))
		}
		for k := range 100 {
			checkDecode(t, append(bytes.Clone(b), make([]byte, k)...))
			checkDecode(t, append(bytes.Clone(b), sample(k)...))
		}
		if n > 6 {
			for _, broken := range [][]byte{b[:len(b)-1], append(bytes.Clone(b), 1), append([]byte{0}, b...)} {
				if l, e := Decode(broken); len(l) != 0 || e != api.ErrSyntax {
					t.Errorf("Decode(%x) = %+v, %d, want ErrSyntax", broken, l, e)
				}
			}
		}
	}
}

// P15.5: each byte of a list with each value.
func TestChangedBytes(t *testing.T) {
	long := issued(api.Certificate{Name: "gw-1.example.org", Key: q, From: 0, To: 1<<31 - 1, Authority: true}, 9)
	b := encoded([]api.Certificate{chain(1)[0], long, chain(3)[2]})
	for i := range b {
		for x := range 256 {
			other := bytes.Clone(b)
			other[i] = byte(x)
			checkDecode(t, other)
		}
	}
}

// P15.5: certificates that have the form of one, but for which Body has an error.
func TestDecodeErrors(t *testing.T) {
	for i, c := range []api.Certificate{
		{}, {Key: 4}, {Name: "12345678901234567", Key: 4}, {Name: "a b", Key: 4}, {Name: "a\x7f", Key: 4}, {Name: "\xc3\xa9", Key: 4},
		{Name: "a"}, {Name: "a", Key: 1}, {Name: "a", Key: 2}, {Name: "a", Key: p + 4}, {Name: "a", Key: most},
		{Name: "a", Key: 4, From: 1}, {Name: "a", Key: 4, From: 2, To: 1}, {Name: "a", Key: 4, To: 1 << 31}, {Name: "a", Key: 4, From: 1 << 31, To: 1 << 31},
		{Name: "a", Key: 4, To: 1<<32 - 1}, {Name: "a", Key: 4, From: 1<<32 - 2, To: 1<<32 - 1}, {Name: strings.Repeat("a", 255), Key: 4},
	} {
		wrong, good := encoded([]api.Certificate{issued(c, 9)}), encoded(chain(2))
		for _, b := range [][]byte{wrong, slices.Concat(wrong, good), slices.Concat(good, wrong), slices.Concat(good, wrong, good), slices.Concat(encoded(chain(9)), wrong)} {
			if l, e := Decode(b); len(l) != 0 || e != api.ErrSyntax {
				t.Errorf("%d: Decode(%x) = %+v, %d, want ErrSyntax", i, b, l, e)
			}
			checkDecode(t, b)
		}
	}
	for authority := range 256 {
		b := encoded([]api.Certificate{issued(api.Certificate{Name: "a", Key: 4}, 9)})
		b[18] = byte(authority)
		if l, e := Decode(b); (e == api.OK) != (authority <= 1) || e == api.OK && l[0].Authority != (authority == 1) {
			t.Errorf("Decode with authority %d = %+v, %d", authority, l, e)
		}
	}
}

// R2: arguments and their spare capacity stay as they are, whatever is done with the result.
func TestArgumentsStay(t *testing.T) {
	message, signature := spare(sample(40)), spare(signOf(5, sample(40)))
	own := signed(t, 5, message)
	clear(own[:cap(own)])
	checkVerify(t, 1024, message, signature, api.OK)
	checkVerify(t, 1024, message[:30], signature, api.ErrSignature)
	checkSpare(t, "message", message, sample(40))
	checkSpare(t, "signature", signature, signOf(5, sample(40)))

	l := chain(3)
	for i := range l {
		l[i].Signature = spare(l[i].Signature)
	}
	behind := append(slices.Clone(l), named("behind", 5, true))[:3]
	checkChain(t, "spare", behind, power(4, 8), 15, api.OK)
	b, _ := Encode(behind)
	clear(b[:cap(b)])
	x, _ := Issue(behind[0], 77)
	clear(x.Signature[:cap(x.Signature)])
	if !reflect.DeepEqual(behind, chain(3)) || !reflect.DeepEqual(behind[:4][3], named("behind", 5, true)) {
		t.Errorf("the chain became %+v", behind[:4])
	}
	for i, c := range chain(3) {
		checkSpare(t, "certificate", l[i].Signature, c.Signature)
	}

	full := spare(encoded(chain(3)))
	got, _ := Decode(full)
	for i := range got {
		clear(got[i].Signature[:cap(got[i].Signature)])
	}
	Decode(full[:len(full)-1])
	checkSpare(t, "bytes", full, encoded(chain(3)))
}

// R2: who changes a result changes no later one, and no other part of it.
func TestResultsAreNew(t *testing.T) {
	for range 3 {
		b, _ := Body(named("p0", 5, false))
		s := signed(t, 6, b)
		c, _ := Issue(named("p0", 5, false), 6)
		all, _ := Encode(chain(2))
		l, _ := Decode(all)
		if !bytes.Equal(b, bodyOf(named("p0", 5, false))) || !bytes.Equal(s, signOf(6, b)) || !reflect.DeepEqual(c, chain(1)[0]) ||
			!bytes.Equal(all, encoded(chain(2))) || !reflect.DeepEqual(l, chain(2)) {
			t.Errorf("Body = %x, Sign = %x, Issue = %+v, Encode = %x, Decode = %+v", b, s, c, all, l)
		}
		first := l[0].Signature
		clear(first[:cap(first)])
		if !reflect.DeepEqual(l[1], chain(2)[1]) {
			t.Errorf("the second certificate became %+v", l[1])
		}
		for _, result := range [][]byte{b, s, c.Signature, all, l[1].Signature} {
			clear(result[:cap(result)])
		}
	}
}
