package keys

import (
	"bytes"
	"crypto/hmac"
	"crypto/sha256"
	"encoding/binary"
	"math"
	"slices"
	"strings"
	"testing"

	"ipsecgate/api"
	"ipsecgate/wire"
)

// What a sample is for: samples of one length differ by it.
const (
	ofNi = iota + 1
	ofNr
	ofShared
	ofKey
	ofMessage
)

const most = math.MaxUint64

// sample returns n bytes that have no order.
func sample(n, of int) []byte {
	b := make([]byte, n)
	for i := range b {
		b[i] = byte(i*167 + i/64*31 + of*59 + 13)
	}
	return b
}

func bytes8(v uint64) []byte { return binary.BigEndian.AppendUint64(nil, v) }

// hash computes a keyed hash of the joined parts with the library.
func hash(key []byte, parts ...[]byte) []byte {
	h := hmac.New(sha256.New, key)
	for _, p := range parts {
		h.Write(p)
	}
	return h.Sum(nil)
}

// stream computes bytes of prf.Plus, at least n of them.
func stream(n int, key []byte, parts ...[]byte) []byte {
	var out, last []byte
	for i := byte(1); len(out) < n; i++ {
		last = hash(key, last, slices.Concat(parts...), []byte{i})
		out = append(out, last...)
	}
	return out
}

// deriveOf computes the keys of an IKE association: D, Ei, Er, Pi, Pr.
func deriveOf(seed, ni, nr []byte, initiator, responder uint64) [5][]byte {
	b := stream(172, seed, ni, nr, bytes8(initiator), bytes8(responder))
	return [5][]byte{b[:32], b[32:68], b[68:104], b[104:136], b[136:168]}
}

// childOf computes the keys of a pair of ESP associations.
func childOf(d, ni, nr, shared []byte) [2][]byte {
	b := stream(72, d, shared, ni, nr)
	return [2][]byte{b[:36], b[36:72]}
}

func listOf(k api.Keys) [5][]byte { return [5][]byte{k.D, k.Ei, k.Er, k.Pi, k.Pr} }

func pairOf(k api.ChildKeys) [2][]byte { return [2][]byte{k.Initiator, k.Responder} }

// checkSeed fails if Seed has another result than its definition.
func checkSeed(t *testing.T, ni, nr, shared []byte) {
	t.Helper()
	if b, e := Seed(ni, nr, shared); !bytes.Equal(b, hash(slices.Concat(ni, nr), shared)) || e != api.OK {
		t.Errorf("Seed(%x, %x, %x) = %x, %d", ni, nr, shared, b, e)
	}
}

// checkDerive fails if Derive has another result than its definition.
func checkDerive(t *testing.T, seed, ni, nr []byte, initiator, responder uint64) {
	t.Helper()
	k, e := Derive(seed, ni, nr, initiator, responder)
	for i, want := range deriveOf(seed, ni, nr, initiator, responder) {
		if !bytes.Equal(listOf(k)[i], want) || e != api.OK {
			t.Errorf("Derive(%x, %x, %x, %x, %x): key %d is %x, %d, want %x", seed, ni, nr, initiator, responder, i, listOf(k)[i], e, want)
		}
	}
}

// checkRekey fails if Rekey has another result than its definition.
func checkRekey(t *testing.T, d, ni, nr, shared []byte) {
	t.Helper()
	if b, e := Rekey(d, ni, nr, shared); !bytes.Equal(b, hash(d, shared, ni, nr)) || e != api.OK {
		t.Errorf("Rekey(%x, %x, %x, %x) = %x, %d", d, ni, nr, shared, b, e)
	}
}

// checkChild fails if Child has another result than its definition.
func checkChild(t *testing.T, d, ni, nr, shared []byte) {
	t.Helper()
	k, e := Child(d, ni, nr, shared)
	for i, want := range childOf(d, ni, nr, shared) {
		if !bytes.Equal(pairOf(k)[i], want) || e != api.OK {
			t.Errorf("Child(%x, %x, %x, %x): key %d is %x, %d, want %x", d, ni, nr, shared, i, pairOf(k)[i], e, want)
		}
	}
}

// checkRefused fails if a function with nonces accepts these, or returns anything beside ErrKey.
func checkRefused(t *testing.T, ni, nr, shared []byte) {
	t.Helper()
	checkUnseeded(t, ni, nr, shared)
	key := sample(32, ofKey)
	k, e := Derive(key, ni, nr, 1, 2)
	if len(slices.Concat(k.D, k.Ei, k.Er, k.Pi, k.Pr)) != 0 || e != api.ErrKey {
		t.Errorf("Derive with nonces of %d and %d bytes = %x, %d", len(ni), len(nr), listOf(k), e)
	}
	c, e := Child(key, ni, nr, shared)
	if len(slices.Concat(c.Initiator, c.Responder)) != 0 || e != api.ErrKey {
		t.Errorf("Child with nonces of %d and %d bytes = %x, %d", len(ni), len(nr), pairOf(c), e)
	}
}

// checkUnseeded fails if Seed or Rekey accepts these, or returns anything beside ErrKey.
func checkUnseeded(t *testing.T, ni, nr, shared []byte) {
	t.Helper()
	if b, e := Seed(ni, nr, shared); len(b) != 0 || e != api.ErrKey {
		t.Errorf("Seed with %d, %d and %d bytes = %x, %d", len(ni), len(nr), len(shared), b, e)
	}
	for _, d := range [][]byte{nil, sample(32, ofKey)} {
		if b, e := Rekey(d, ni, nr, shared); len(b) != 0 || e != api.ErrKey {
			t.Errorf("Rekey with %d, %d and %d bytes = %x, %d", len(ni), len(nr), len(shared), b, e)
		}
	}
}

// results returns all seeds and keys that are made of these, as texts.
func results(ni, nr, shared, key []byte) []string {
	seed, _ := Seed(ni, nr, shared)
	next, _ := Rekey(key, ni, nr, shared)
	k, _ := Derive(key, ni, nr, 1, 2)
	c, _ := Child(key, ni, nr, shared)
	l := []string{wire.Hex(seed), wire.Hex(next), wire.Hex(c.Initiator), wire.Hex(c.Responder)}
	for _, b := range listOf(k) {
		l = append(l, wire.Hex(b))
	}
	return l
}

// spare returns b with bytes behind it that are not its own.
func spare(b []byte) []byte {
	return append(bytes.Clone(b), bytes.Repeat([]byte{0xa5}, 300)...)[:len(b)]
}

// checkSpare fails if b or what is behind it has changed.
func checkSpare(t *testing.T, what string, b, want []byte) {
	t.Helper()
	if !bytes.Equal(b, want) || !bytes.Equal(b[len(b):len(b)+300], bytes.Repeat([]byte{0xa5}, 300)) {
		t.Errorf("%s: %x and behind it %x, was %x", what, b, b[len(b):len(b)+300], want)
	}
}

// flipped returns b with another bit.
func flipped(b []byte, bit int) []byte {
	b = bytes.Clone(b)
	b[bit/8] ^= 1 << (bit % 8)
	return b
}

// P16.1: seeds that were computed elsewhere.
func TestSeeds(t *testing.T) {
	for _, c := range []struct {
		ni, nr, shared int
		want           string
	}{
		{16, 16, 1, "8592b6044472f5c72e97038b4662a98c7a3c6622018f1af7d20f64a90e3769b7"},
		{16, 256, 8, "8c201123f5d4c34e9bfa4e13811c03673efc5b174fc61d7b159b3e882c9785b3"},
		{256, 16, 32, "a796f3ee9b1b62d16f32352ba57d790e7c69650e6dee4af4ff9bc4f7de05521e"},
		{256, 256, 100, "c8b74d906e70941bcea90453586c5369112f6923a10dadafaf57de2a4a82fd5b"},
		{32, 32, 8, "72d7516ca21e6915ca0e63ffa254bd229816d76d208e3a6b63dde17f6a35bc00"},
		{33, 31, 256, "3d6f8fc9d5c0e3d356dacec576cc84dd82aafaba685d93a52efa128770d5cb53"},
		{17, 255, 2000, "865f966552b3e586aad728f4934b58f61f651c8427c59a5aa47290f793d0c1c1"},
	} {
		if b, e := Seed(sample(c.ni, ofNi), sample(c.nr, ofNr), sample(c.shared, ofShared)); wire.Hex(b) != c.want || e != api.OK {
			t.Errorf("Seed of %d, %d and %d bytes = %x, %d, want %s", c.ni, c.nr, c.shared, b, e, c.want)
		}
	}
}

// P16.2: keys that were computed elsewhere.
func TestDerived(t *testing.T) {
	for _, c := range []struct {
		seed, ni, nr         int
		initiator, responder uint64
		want                 [5]string
	}{
		{
			32, 16, 16, 1, 2, [5]string{
				"c896963b9b1885d717a30a4aae799a890f967369c2a6b0aeff35ede4a0df23c1",
				"2490068010d07c9de145edd85eceb4a920ff6262a03a19cc4c67c24d528e3771fa38267c",
				"f6937f6a958ac95a29f7b5c63da7fa11d49d6af74c9b9b4685f506162c2ba79c0b51a646",
				"f1765b89ad836ea8c013d2a6d2fa3c9fbb9f31b1a8dfa45aa77bb9c658456b71",
				"fa8fc770fb76cb20a8e1a0927df3d10ae97b1f3ec527111a3fd9630d1b5620ef",
			},
		},
		{
			32, 32, 48, 0x0123456789abcdef, 0xfedcba9876543210, [5]string{
				"bd5aa2298898e374c33951c0caac5e942be51d2e502161e9f4838491d2a3fae3",
				"e9e5abe89f94e3f12b6ab2b43f505a217a6e36444c3b25b53880e1556f9c4b954c339ed0",
				"9d9fb67cec3ecd9c7266187265a8c94b316c9da919fb4a6274fac08ab82796221cc20db2",
				"3e34d68e498ae31e311e4c6ebb95aee76450b70cedc072ee654481a78ec2cb75",
				"15b4c14e6761c9adf9a8f503c75c391cb3c7c0c1bf4e3f9e27d7c3de4a54a707",
			},
		},
		{
			32, 256, 16, 0, 0, [5]string{
				"82ef7a88a1d84bae6084abadd64a397cc71964355dd3dfebca62da72e1249310",
				"3d2535cd740a0aca57ee055c258627bbcdf0771817ee78af1c48fb1f7e5317a6b5ec5eb3",
				"ecea059750f0158e566dd5f5a3437dfd8e29cb03d98fa1d98e751ccf388835bfd44c67aa",
				"7392456c43234b6b52463d66fb3195a50d097070411dd04a59c1eb40abc0f57a",
				"38aad318451e752a4d0677020ed94388aee2ce4f5ec948bc7ca07db12eb3151d",
			},
		},
		{
			0, 16, 256, most, 1 << 63, [5]string{
				"f44aa292f83f9c52ed6d7e29047f24d6f85c1f3ca1ee42944e70c38b8969051a",
				"4f12bf9837087333c201a8ea6139846d7d99d1b2be3a0c179da5667764121c6bd749dfe9",
				"131ebdc45b7a2070e62db4cd59d1fdc6d4b7e5e4382dd7f7e325a98a5b5e21c8d649d705",
				"8f55433e333a5bb402198d99a34bc3b5b579bdf960cac2078711729ac89b63ac",
				"4fea6fcfe25403e49c661ad4c03d28e076a495c878978982d2fef33d1c4e9d66",
			},
		},
		{
			100, 256, 256, 0xff00000000000000, 0xff, [5]string{
				"bda4e692ef1fbfbaf3e400b6c4921a9569c4196cc57ee27c4374f7f52a48dc5f",
				"19415a55a650a3fcdd1ff69e76b61910b73dc560d06b1ab3553f179ffce68fa638120e54",
				"a284afa650d833221204dc090a7b24a1516ee491ab256ffc744cd41f29ef51a154f36740",
				"8e24e6345e70ff91b22235dc441bf8239a51313693abd79d545232af27b9fb7c",
				"c976a8e7c7be3d51683093f5e1b83971adf3b709decbe678cbb1d6da623e299d",
			},
		},
	} {
		k, e := Derive(sample(c.seed, ofKey), sample(c.ni, ofNi), sample(c.nr, ofNr), c.initiator, c.responder)
		for i, b := range listOf(k) {
			if wire.Hex(b) != c.want[i] || e != api.OK {
				t.Errorf("Derive of %d, %d and %d bytes, %x, %x: key %d is %x, %d, want %s", c.seed, c.ni, c.nr, c.initiator, c.responder, i, b, e, c.want[i])
			}
		}
	}
}

// P16.3: seeds that were computed elsewhere.
func TestRekeyed(t *testing.T) {
	for _, c := range []struct {
		d, ni, nr, shared int
		want              string
	}{
		{32, 16, 16, 1, "38a24b098afe741213ed7d6dbc5911b94654fc3ecc33144e1be77f5c1e6bacd8"},
		{32, 16, 256, 8, "a3e21c7264a016eaeaf63cfeb889e68bd46bbe0038f233b2f072f13ca428d7cc"},
		{0, 256, 16, 32, "24ea877db53c60d6e1e94b744c238d00fc336bf30e2796b7ad3253e0300ba048"},
		{100, 256, 256, 100, "fdbe780f440f59046fca406b35a21cced1b5ba6a2fe53ec1373b6ab310b21662"},
		{32, 32, 40, 8, "81748ced12c32af7a533de1d99279efd85cbb202f6d8d96540c61255a6841e13"},
	} {
		b, e := Rekey(sample(c.d, ofKey), sample(c.ni, ofNi), sample(c.nr, ofNr), sample(c.shared, ofShared))
		if wire.Hex(b) != c.want || e != api.OK {
			t.Errorf("Rekey of %d, %d, %d and %d bytes = %x, %d, want %s", c.d, c.ni, c.nr, c.shared, b, e, c.want)
		}
	}
}

// P16.4: keys that were computed elsewhere, with a shared secret and without one.
func TestChildren(t *testing.T) {
	for _, c := range []struct {
		d, ni, nr, shared int
		want              [2]string
	}{
		{
			32, 16, 16, 0, [2]string{
				"da1259db843bc5905197edc5f443831260a4b153940fb9c6df8256fb66185d5920c93a52",
				"c8d951c06b860f77ac1def588874ab323d0b43406d036a91232780ce5390565d669b1702",
			},
		},
		{
			32, 16, 256, 8, [2]string{
				"39e32982bac8ee9a6ee0f725e8394a5d54e88de55e372742aeacbb93c3d95933be4bb249",
				"b2fc1f3b6bb59857a7b27bc7ebd5b03081de83a1125ee0894c18f2fd7a6d9b34bcb01540",
			},
		},
		{
			0, 256, 16, 32, [2]string{
				"e3239246f3be66fe2386e5041cb359913dd76e9385cd5184bd351f7fbfc782d764cbad7e",
				"c35f2e61a837bc4514a9b7adf95f4af070b6059b9ca61cf77e8f3fcf08d5ce7d41f2b9b7",
			},
		},
		{
			100, 256, 256, 100, [2]string{
				"f18a21c7bb1213c8ec1359c99065e885209ec2fd02ce115e636f45ab8023af19fb288dee",
				"e5370c21808ebdba4b3fb78079a22d4447e58b8103578605ca51a15db6f540622a86c15e",
			},
		},
		{
			32, 32, 40, 8, [2]string{
				"ae706e5682427409212e41d90a9d399e459621ab8193cf10c921c9f05051f2a935e26cdc",
				"fcb06af984bdfae45ccac1db698084c7306271e7fdbb0f9f349c2c8cc5e83f4e839470a3",
			},
		},
		{
			32, 32, 40, 0, [2]string{
				"ae6f5063420a51df05f7cb9ef26a5e54854574140d104067ab17b852fecf986820e1dd5f",
				"c8b03149a4806d7b5426ff2d4f6272893918fc48dff8a2adf23ee6e580f98b2f76086ced",
			},
		},
	} {
		k, e := Child(sample(c.d, ofKey), sample(c.ni, ofNi), sample(c.nr, ofNr), sample(c.shared, ofShared))
		for i, b := range pairOf(k) {
			if wire.Hex(b) != c.want[i] || e != api.OK {
				t.Errorf("Child of %d, %d, %d and %d bytes: key %d is %x, %d, want %s", c.d, c.ni, c.nr, c.shared, i, b, e, c.want[i])
			}
		}
	}
}

// P16.1 to P16.4: nonces of all lengths that are right, and other lengths of the rest.
func TestLengths(t *testing.T) {
	for n := 16; n <= 256; n++ {
		for _, c := range [][2]int{{n, 16}, {16, n}, {n, 256}, {256, n}, {n, 272 - n}} {
			ni, nr, shared, key := sample(c[0], ofNi), sample(c[1], ofNr), sample(1+n/4, ofShared), sample(32, ofKey)
			checkSeed(t, ni, nr, shared)
			checkDerive(t, key, ni, nr, 3, 4)
			checkRekey(t, key, ni, nr, shared)
			checkChild(t, key, ni, nr, shared)
		}
	}
	for _, n := range []int{1, 2, 8, 16, 31, 32, 33, 55, 56, 63, 64, 65, 100, 1000, 70000} {
		ni, nr, shared, key := sample(20, ofNi), sample(24, ofNr), sample(32, ofShared), sample(32, ofKey)
		checkSeed(t, ni, nr, sample(n, ofShared))
		checkDerive(t, sample(n, ofKey), ni, nr, 3, 4)
		checkRekey(t, key, ni, nr, sample(n, ofShared))
		checkRekey(t, sample(n, ofKey), ni, nr, shared)
		checkChild(t, key, ni, nr, sample(n, ofShared))
		checkChild(t, sample(n, ofKey), ni, nr, shared)
	}
}

// P16.1 to P16.4: a nonce of another length is refused at either place, whatever lies behind it.
func TestNonceLengths(t *testing.T) {
	lengths := []int{257, 258, 271, 272, 288, 300, 511, 512, 513, 65536, 65536 + 16, 1 << 20}
	for n := range 16 {
		lengths = append(lengths, n)
	}
	shared := sample(8, ofShared)
	for _, n := range lengths {
		for _, m := range []int{16, 32, 256} {
			checkRefused(t, spare(sample(n, ofNi)), sample(m, ofNr), shared)
			checkRefused(t, sample(m, ofNi), spare(sample(n, ofNr)), shared)
			checkRefused(t, make([]byte, n), make([]byte, m), shared)
			checkRefused(t, make([]byte, m), make([]byte, n), shared)
		}
		checkRefused(t, sample(n, ofNi), sample(n, ofNr), shared)
		checkRefused(t, sample(n, ofNi), sample(n, ofNr), nil)
	}
	for _, b := range [][]byte{nil, {}, sample(15, ofNi)} {
		checkRefused(t, b, sample(17, ofNr), shared)
		checkRefused(t, sample(17, ofNi), b, shared)
		checkRefused(t, b, b, nil)
	}
	// Both together have as many bytes as two right ones.
	checkRefused(t, sample(15, ofNi), sample(257, ofNr), shared)
	checkRefused(t, sample(257, ofNi), sample(15, ofNr), shared)
	checkRefused(t, sample(0, ofNi), sample(32, ofNr), shared)
}

// P16.1, P16.3, P16.4: only children do without a shared secret; what it is made of does not matter.
func TestNoShared(t *testing.T) {
	ni, nr, key := sample(16, ofNi), sample(256, ofNr), sample(32, ofKey)
	for _, none := range [][]byte{nil, {}, sample(100, ofShared)[:0]} {
		checkUnseeded(t, ni, nr, none)
		checkChild(t, key, ni, nr, none)
	}
	for _, shared := range [][]byte{{0}, {255}, make([]byte, 8), make([]byte, 256)} {
		checkSeed(t, ni, nr, shared)
		checkRekey(t, key, ni, nr, shared)
		checkChild(t, key, ni, nr, shared)
	}
}

// P16.2: SPIs have 8 bytes each, the one of the initiator first.
func TestSpis(t *testing.T) {
	seed, ni, nr := sample(32, ofKey), sample(16, ofNi), sample(16, ofNr)
	list := []uint64{0, 1, 255, 256, 65535, 65536, 1<<32 - 1, 1 << 32, 1<<63 - 1, most - 1, most}
	for i := range 64 {
		list = append(list, 1<<i)
	}
	seen := map[string][2]uint64{}
	for _, a := range list {
		for _, b := range []uint64{0, 1, 2, 1 << 40, most} {
			checkDerive(t, seed, ni, nr, a, b)
			checkDerive(t, seed, ni, nr, b, a)
			k, _ := Derive(seed, ni, nr, a, b)
			if other, twice := seen[string(k.D)]; twice && other != [2]uint64{a, b} {
				t.Errorf("%x and %x have the keys of %x", a, b, other)
			}
			seen[string(k.D)] = [2]uint64{a, b}
		}
	}
}

// P16.1 to P16.4: keys and seeds of any length, also those that hold nothing.
func TestEmptyKeys(t *testing.T) {
	ni, nr, shared := sample(19, ofNi), sample(21, ofNr), sample(8, ofShared)
	for _, none := range [][]byte{nil, {}, sample(100, ofKey)[:0]} {
		checkDerive(t, none, ni, nr, 5, 6)
		checkRekey(t, none, ni, nr, shared)
		checkChild(t, none, ni, nr, shared)
		checkChild(t, none, ni, nr, none)
	}
}

// P16.1 to P16.4: each bit of each argument counts.
func TestBits(t *testing.T) {
	ni, nr, shared, key := sample(16, ofNi), sample(16, ofNr), sample(8, ofShared), sample(32, ofKey)
	seen := map[string]bool{}
	collect := func(ni, nr, shared, key []byte) {
		for _, text := range results(ni, nr, shared, key) {
			seen[text] = true
		}
	}
	check := func(name string, want int) {
		t.Helper()
		if len(seen) != want {
			t.Errorf("%s: %d results, want %d", name, len(seen), want)
		}
		clear(seen)
	}
	for bit := range 128 {
		collect(flipped(ni, bit), nr, shared, key)
		collect(ni, flipped(nr, bit), shared, key)
	}
	check("nonces", 9*256)
	for bit := range 64 {
		collect(ni, nr, flipped(shared, bit), key)
	}
	check("shared secret, which Derive does without", 4*64+5)
	for bit := range 256 {
		collect(ni, nr, shared, flipped(key, bit))
	}
	check("key, which Seed does without", 8*256+1)
}

// P16.5: octets that were computed elsewhere.
func TestOctets(t *testing.T) {
	for _, c := range []struct {
		message, nonce, p, kind int
		data, want              string
	}{
		{
			0, 16, 32, api.IdAddress4, "\x0a\x00\x00\x01",
			"48ef963de48b32d98027ce751cc36a11840d014cea132150aa8182530f3daac92feed687322054058706966b7a34b5ee",
		},
		{0, 0, 0, 0, "", "aa7855e13839dd767cd5da7c1ff5036540c9264b7a803029315e55375287b4af"},
		{
			3, 20, 32, api.IdName, "gate.example",
			"34db8248ef963de48b32d98027ce751cc36a11b85f06ad04905d4785256d358d7446ea3a112d6660f0555dd82653f814f5908e7ef93941",
		},
		{
			2, 16, 32, api.IdMail, "a@b",
			"34db48ef963de48b32d98027ce751cc36a11e8b9bccc8611ca6f8353fd336a441ac1cbc2395bfe568a8f1e8718502c0c2b62",
		},
		{
			5, 18, 64, api.IdAddress6, strings.Repeat("\x00", 15) + "\x01",
			"34db8229d048ef963de48b32d98027ce751cc36a11b85f1ba4224df38ad9c442e1df2cb83648ac409c8d030c69071d366facf4f3e886a7",
		},
		{
			1, 17, 65, api.IdKey, strings.Repeat("x", 70),
			"3448ef963de48b32d98027ce751cc36a11b819e77fbe128949075e04eff2b7251f2428384d61c55342aa5fd92fd984592031",
		},
		{
			4, 16, 0, 255, "\x00",
			"34db822948ef963de48b32d98027ce751cc36a114a28bfdac5d6b45d4d5afe1a48d3656024b196d8e285ebd0b4397e4bababefa3",
		},
	} {
		id := api.Identity{Kind: c.kind, Data: []byte(c.data)}
		if b := Octets(sample(c.message, ofMessage), sample(c.nonce, ofNi), sample(c.p, ofKey), id); wire.Hex(b) != c.want {
			t.Errorf("Octets of %d, %d and %d bytes and %v = %x, want %s", c.message, c.nonce, c.p, id, b, c.want)
		}
	}
}

// P16.5: all kinds, those that are no bytes as their lowest byte, and lists of all lengths, among them those of no nonce.
func TestOctetsLengths(t *testing.T) {
	check := func(message, nonce, p []byte, kind int, data []byte) {
		t.Helper()
		want := slices.Concat(message, nonce, hash(p, []byte{byte(kind & 255), 0, 0, 0}, data))
		if b := Octets(message, nonce, p, api.Identity{Kind: kind, Data: data}); !bytes.Equal(b, want) {
			t.Errorf("Octets(%x, %x, %x, %d, %x) = %x, want %x", message, nonce, p, kind, data, b, want)
		}
	}
	for kind := range 256 {
		check(sample(9, ofMessage), sample(16, ofNi), sample(32, ofKey), kind, sample(kind, ofShared))
	}
	for _, kind := range []int{-1, -255, -256, 256, 257, 511, 1 << 32, 1<<40 + 7, math.MinInt, math.MaxInt} {
		check(sample(9, ofMessage), sample(16, ofNi), sample(32, ofKey), kind, sample(5, ofShared))
	}
	for _, n := range []int{0, 1, 15, 16, 17, 64, 255, 256, 257, 300, 8192, 70000} {
		check(sample(n, ofMessage), sample(16, ofNi), sample(32, ofKey), 2, sample(5, ofShared))
		check(sample(9, ofMessage), sample(n, ofNi), sample(32, ofKey), 2, sample(5, ofShared))
		check(sample(9, ofMessage), sample(16, ofNi), sample(n, ofKey), 2, sample(5, ofShared))
		check(sample(9, ofMessage), sample(16, ofNi), sample(32, ofKey), 2, sample(n, ofShared))
	}
	for _, none := range [][]byte{nil, {}} {
		check(none, none, none, 0, none)
		check(none, sample(16, ofNi), none, 11, none)
	}
}

// P16.5: results that were computed elsewhere.
func TestShared(t *testing.T) {
	for _, c := range []struct {
		secret, octets []byte
		want           string
	}{
		{nil, nil, "d11868fe5118511d5628bd51502e4abea11833683391e28695db5113cc14a14e"},
		{[]byte{}, []byte{}, "d11868fe5118511d5628bd51502e4abea11833683391e28695db5113cc14a14e"},
		{[]byte("secret"), nil, "2d4df51b51ab555786c105ba44d6aa14d1047a570606ad18eee464d2f68d8375"},
		{[]byte("secret"), []byte("octets"), "93d6b432e988c4c184f49457ef7ddfef938f1179de4120120d1cc523b368d33b"},
		{nil, sample(88, ofMessage), "a591604ebc32e5056215cb3866ed86a750603244e0d1d17117254cdf1ea4c3bb"},
		{sample(64, ofKey), sample(64, ofMessage), "0ec8458b357a7b0461a1f39bce526bf3c4e17a241479b02c172fbfd2664152ea"},
		{sample(65, ofKey), sample(1000, ofMessage), "c0ec641c525fa9fb42bcec442b46d0a176430aee3df4d4e7c28b4bffcb5b276f"},
	} {
		if b := Shared(c.secret, c.octets); wire.Hex(b) != c.want {
			t.Errorf("Shared(%x, %x) = %x, want %s", c.secret, c.octets, b, c.want)
		}
	}
	for n := range 300 {
		for _, m := range []int{0, 1, 40, 64, 300} {
			for _, c := range [][2][]byte{{sample(n, ofKey), sample(m, ofMessage)}, {sample(m, ofKey), sample(n, ofMessage)}} {
				if b := Shared(c[0], c[1]); !bytes.Equal(b, hash(hash(c[0], []byte("Key Pad for IKEv2")), c[1])) {
					t.Errorf("Shared(%x, %x) = %x", c[0], c[1], b)
				}
			}
		}
	}
}

// P16.6: both ends derive the same, from lists of their own; no two results are equal.
func TestBothEnds(t *testing.T) {
	for n := 16; n <= 256; n += 24 {
		end := func() []string {
			return results(sample(n, ofNi), sample(272-n, ofNr), sample(8, ofShared), sample(32, ofKey))
		}
		mine, theirs := end(), end()
		if !slices.Equal(mine, theirs) {
			t.Errorf("the ends have %v and %v", mine, theirs)
		}
		slices.Sort(mine)
		if len(slices.Compact(mine)) != len(theirs) {
			t.Errorf("two of %v are equal", theirs)
		}
	}
}

// P16.6: the order of the nonces counts, but not where the first one ends.
func TestExchangedNonces(t *testing.T) {
	shared, key := sample(8, ofShared), sample(32, ofKey)
	for _, c := range [][2]int{{16, 16}, {16, 17}, {20, 40}, {100, 256}, {256, 256}} {
		ni, nr := sample(c[0], ofNi), sample(c[1], ofNr)
		first, second := results(ni, nr, shared, key), results(nr, ni, shared, key)
		for i := range first {
			if first[i] == second[i] {
				t.Errorf("%v: the result %d is %s for both orders", c, i, first[i])
			}
		}
	}
	all := sample(64, ofNi)
	want := results(all[:32], all[32:], shared, key)
	for n := 16; n <= 48; n++ {
		if !slices.Equal(results(all[:n], all[n:], shared, key), want) {
			t.Errorf("a first nonce of %d bytes has other results", n)
		}
	}
}

// R2: arguments and their spare capacity stay as they are, whatever is done with the results.
func TestArgumentsStay(t *testing.T) {
	for n := 16; n <= 256; n += 16 {
		ni, nr, shared, key := spare(sample(n, ofNi)), spare(sample(16, ofNr)), spare(sample(n/2, ofShared)), spare(sample(n/4, ofKey))
		seed, _ := Seed(ni, nr, shared)
		k, _ := Derive(key, ni, nr, 1, 2)
		next, _ := Rekey(key, ni, nr, shared)
		c, _ := Child(key, ni, nr, shared)
		octets := Octets(shared, ni, key, api.Identity{Kind: 2, Data: nr})
		noMessage := Octets(nil, ni, key, api.Identity{Kind: 2, Data: nr})
		noNonce := Octets(shared, nil, key, api.Identity{Kind: 2, Data: nr})
		sum := Shared(key, ni)
		for _, b := range [][]byte{seed, next, k.D, k.Ei, k.Er, k.Pi, k.Pr, c.Initiator, c.Responder, octets, noMessage, noNonce, sum} {
			clear(b[:cap(b)])
		}
		checkSpare(t, "ni", ni, sample(n, ofNi))
		checkSpare(t, "nr", nr, sample(16, ofNr))
		checkSpare(t, "shared", shared, sample(n/2, ofShared))
		checkSpare(t, "key", key, sample(n/4, ofKey))
	}
	// One list for all arguments, which the results are made beside.
	b := spare(sample(64, ofNi))
	checkSeed(t, b[:16], b[16:], b)
	checkDerive(t, b[:32], b[:16], b[8:], 1, 2)
	checkRekey(t, b, b[:16], b[:40], b[:8])
	checkChild(t, b, b[:16], b[:40], b[:8])
	checkSpare(t, "one list", b, sample(64, ofNi))
}

// R2: no key is changed with another one, or with a later result.
func TestResultsAreNew(t *testing.T) {
	seed, ni, nr := sample(32, ofKey), sample(16, ofNi), sample(32, ofNr)
	for i := range 7 {
		k, _ := Derive(seed, ni, nr, 1, 2)
		c, _ := Child(seed, ni, nr, nil)
		results, ike, child := [][]byte{k.D, k.Ei, k.Er, k.Pi, k.Pr, c.Initiator, c.Responder}, deriveOf(seed, ni, nr, 1, 2), childOf(seed, ni, nr, nil)
		want := [][]byte{ike[0], ike[1], ike[2], ike[3], ike[4], child[0], child[1]}
		_ = append(results[i], sample(200, ofMessage)...)
		clear(results[i])
		for j, b := range results {
			if j != i && !bytes.Equal(b, want[j]) {
				t.Errorf("the key %d became %x with the key %d", j, b, i)
			}
		}
		checkDerive(t, seed, ni, nr, 1, 2)
		checkChild(t, seed, ni, nr, nil)
	}
	for range 2 {
		checkSeed(t, ni, nr, seed)
		checkRekey(t, seed, ni, nr, seed)
		b, _ := Seed(ni, nr, seed)
		next, _ := Rekey(seed, ni, nr, seed)
		clear(b)
		clear(next)
	}
}
