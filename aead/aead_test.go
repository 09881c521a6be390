package aead

import (
	"bytes"
	"encoding/binary"
	"testing"

	"ipsecgate/api"
	"ipsecgate/chacha"
	"ipsecgate/poly1305"
	"ipsecgate/wire"
)

// sample returns n bytes that differ by n and do not repeat after one block.
func sample(n int) []byte {
	b := make([]byte, n)
	for i := range b {
		b[i] = byte(i*167 + i/64*31 + n*7 + 13)
	}
	return b
}

// bytesOf returns the bytes of a text of wire.Hex.
func bytesOf(t *testing.T, text string) []byte {
	t.Helper()
	b, e := wire.Unhex(text)
	if e != api.OK {
		t.Fatalf("%s is not hexadecimal", text)
	}
	return b
}

// spare returns b with spare capacity that is filled with a mark.
func spare(b []byte) []byte {
	return append(bytes.Clone(b), bytes.Repeat([]byte{0xa5}, 80)...)[:len(b)]
}

// checkSpare fails if b or its spare capacity is no longer as spare made it.
func checkSpare(t *testing.T, name string, b, want []byte) {
	t.Helper()
	if !bytes.Equal(b, want) || !bytes.Equal(b[len(b):len(b)+80], bytes.Repeat([]byte{0xa5}, 80)) {
		t.Errorf("%s: the argument of %d bytes became %x", name, len(want), b[:len(b)+80])
	}
}

// changed returns b with another byte at a place.
func changed(b []byte, at int, mask byte) []byte {
	b = bytes.Clone(b)
	b[at] ^= mask
	return b
}

// filled returns b and zeros, one by one, until whole pieces of 16 bytes are there.
func filled(b []byte) []byte {
	b = bytes.Clone(b)
	for len(b)%16 != 0 {
		b = append(b, 0)
	}
	return b
}

// tagOf returns what Tag should, from the lower layers.
func tagOf(key, nonce, data, cipher []byte) []byte {
	block, _ := chacha.Block(key, 0, nonce)
	text := append(filled(data), filled(cipher)...)
	text = binary.LittleEndian.AppendUint64(text, uint64(len(data)))
	text = binary.LittleEndian.AppendUint64(text, uint64(len(cipher)))
	tag, _ := poly1305.Sum(block[:32], text)
	return tag
}

// sealedOf returns what Seal should, from the lower layers, block by block.
func sealedOf(key, nonce, data, plain []byte) []byte {
	out := bytes.Clone(plain)
	for i := range out {
		block, _ := chacha.Block(key, uint32(1+i/64), nonce)
		out[i] ^= block[i%64]
	}
	return append(out, tagOf(key, nonce, data, out)...)
}

// sealed returns Seal of what has to be right.
func sealed(t *testing.T, key, nonce, data, plain []byte) []byte {
	t.Helper()
	b, e := Seal(key, nonce, data, plain)
	if e != api.OK {
		t.Fatalf("Seal(%x, %x, %x, %x) = %x, %d", key, nonce, data, plain, b, e)
	}
	return b
}

// checkOpen fails if Open does not return these bytes.
func checkOpen(t *testing.T, key, nonce, data, sealed, want []byte) {
	t.Helper()
	if b, e := Open(key, nonce, data, sealed); !bytes.Equal(b, want) || e != api.OK {
		t.Errorf("Open(%x, %x, %x, %x) = %x, %d, want %x", key, nonce, data, sealed, b, e, want)
	}
}

// checkRefused fails if Open does not return this error alone.
func checkRefused(t *testing.T, name string, key, nonce, data, sealed []byte, want api.Errno) {
	t.Helper()
	if b, e := Open(key, nonce, data, sealed); len(b) != 0 || e != want {
		t.Errorf("%s: Open(%x, %x, %x, %x) = %x, %d, want %d", name, key, nonce, data, sealed, b, e, want)
	}
}

// P12.1, P12.2: the vectors of RFC 8439 and of RFC 7634, which OpenSSL computes in the same way, and others of OpenSSL.
func TestVectors(t *testing.T) {
	const counted = "808182838485868788898a8b8c8d8e8f909192939495969798999a9b9c9d9e9f"
	const zeros = "0000000000000000000000000000000000000000000000000000000000000000"
	const ones = "ffffffffffffffffffffffffffffffffffffffffffffffffffffffffffffffff"
	lady := "Ladies and Gentlemen of the class of '99: If I could offer you only one tip for the future, sunscreen would be it."
	draft := "Internet-Drafts are draft documents valid for a maximum of six months and may be updated, replaced, or obsoleted by other" +
		" documents at any time. It is inappropriate to use Internet-Drafts as reference material or to cite them other than as" +
		" /\u201cwork in progress./\u201d"
	for i, c := range []struct{ key, nonce, data, plain, want string }{
		{
			counted, "070000004041424344454647", "50515253c0c1c2c3c4c5c6c7", wire.Hex([]byte(lady)),
			"d31a8d34648e60db7b86afbc53ef7ec2a4aded51296e08fea9e2b5a736ee62d63dbea45e8ca9671282fafb69da92728b1a71de0a9e060b2905d6a5b67ecd3b36" +
				"92ddbd7f2d778b8c9803aee328091b58fab324e4fad675945585808b4831d7bc3ff4def08e4b7a9de576d26586cec64b61161ae10b594f09e26a7e902ecbd060" +
				"0691",
		},
		{
			"1c9240a5eb55d38af333888604f6b5f0473917c1402b80099dca5cbc207075c0", "000000000102030405060708", "f33388860000000000004e91",
			wire.Hex([]byte(draft)),
			"64a0861575861af460f062c79be643bd5e805cfd345cf389f108670ac76c8cb24c6cfc18755d43eea09ee94e382d26b0bdb7b73c321b0100d4f03b7f355894cf" +
				"332f830e710b97ce98c8a84abd0b948114ad176e008d33bd60f982b1ff37c8559797a06ef4f0ef61c186324e2b3506383606907b6a7c02b0f9f6157b53c867e4" +
				"b9166c767b804d46a59b5216cde7a4e99040c5a40433225ee282a1b0a06c523eaf4534d7f83fa1155b0047718cbc546a0d072b04b3564eea1b422273f548271a" +
				"0bb2316053fa76991955ebd63159434ecebb4e466dae5a1073a6727627097a1049e617d91d361094fa68f0ff77987130305beaba2eda04df997b714d6c6f2c29" +
				"a6ad5cb4022b02709beead9d67890cbb22392336fea1851f38",
		},
		{
			counted, "a0a1a2a31011121314151617", "0102030400000005",
			"45000054a6f200004001e778c6336405c000020508005b7a3a080000553bec100007362708090a0b0c0d0e0f101112131415161718191a1b1c1d1e1f20212223" +
				"2425262728292a2b2c2d2e2f303132333435363701020204",
			"24039428b97f417e3c13753a4f05087b67c352e6a7fab1b982d466ef407ae5c614ee8099d52844eb61aa95dfab4c02f72aa71e7c4c4f64c9befe2facc638e8f3" +
				"cbec163fac469b502773f6fb94e664da9165b82829f641e076aaa8266b7fb0f7b11b369907e1ad43",
		},
		{
			counted, "a0a1a2a31011121314151617", "c0c1c2c3c4c5c6c7d0d1d2d3d4d5d6d72e202500000000090000004529000029",
			"0000000c000040010000000a00", "610394701f8d017f7c129248896b71bfe25236efd7cdc67066906315b2",
		},
		{zeros, zeros[:24], "", "", "4eb972c9a8fb3a1b382bb4d36f5ffad1"},
		{
			zeros, zeros[:24], zeros, zeros + zeros,
			"9f07e7be5551387a98ba977c732d080dcb0f29a048e3656912c6533e32ee7aed29b721769ce64e43d57133b074d839d531ed1f28510afb45ace10a1f4b794d6f" +
				"c073f4f635ded662c5e11f8a577f1f34",
		},
		{
			ones, ones[:24], ones[:10], ones + ones[:6],
			"22d8bfc313e141bd692c82cec7785b295f8ddae08dbbc49a2deb545ef8a39534d8c0bd99805cc6c825e59404889e81a04f4bc4",
		},
	} {
		key, nonce, data, plain, want := bytesOf(t, c.key), bytesOf(t, c.nonce), bytesOf(t, c.data), bytesOf(t, c.plain), bytesOf(t, c.want)
		if b := sealed(t, key, nonce, data, plain); !bytes.Equal(b, want) {
			t.Errorf("%d: Seal = %x, want %x", i, b, want)
		}
		checkOpen(t, key, nonce, data, want, plain)
		if tag, ok := Tag(key, nonce, data, want[:len(plain)]); !bytes.Equal(tag, want[len(plain):]) || !ok {
			t.Errorf("%d: Tag = %x, %v", i, tag, ok)
		}
	}
}

// P12.1, P12.2: tags that OpenSSL computed.
func TestOthers(t *testing.T) {
	for lengths, want := range map[[2]int]string{
		{0, 0}:         "ef05cb6fde24741c25f8cd85f23a4c80",
		{0, 1}:         "94da036c58c88a1f445bab24d78b02a7",
		{1, 0}:         "d507b9d875d749476915ef7a94031efc",
		{1, 1}:         "9d46f8b3d34a062c3ffbc653b9ed1b03",
		{15, 16}:       "20fcffcb6a688221571a11b6b6bb47b4",
		{16, 15}:       "08d2df5188c9507030fb0db83ea757a6",
		{16, 16}:       "525e18b5bf7e18d20d76bcaac88238b7",
		{17, 17}:       "21d7b106371111f1bb35530c00ca523c",
		{12, 64}:       "4ec7153c1f9e57d064341042e34dea5b",
		{64, 65}:       "e68fef7218e4f0922f7ed496b652a4fa",
		{8, 1000}:      "ee8eaad4cc6e139258d047ffc6bcee59",
		{1000, 8}:      "b4ff69a587d1c2b11dad7612f0387beb",
		{255, 256}:     "4f5432125bdda48dd977296ba816a1ce",
		{256, 255}:     "1f14259665bcc73d22b6df0264c35b04",
		{70000, 0}:     "d36fb4b960582844e08a7ffedf26bacf",
		{0, 70000}:     "ab218fa4e8c19c8bcd3751623e4bda1b",
		{65536, 65537}: "c2da0627665c2268622220329cae7efe",
	} {
		data, plain := sample(lengths[0]), sample(lengths[1])
		b := sealed(t, sample(32), sample(12), data, plain)
		if len(b) != len(plain)+16 || wire.Hex(b[len(plain):]) != want {
			t.Errorf("%v: Seal has %d bytes and the tag %x, want %s", lengths, len(b), b[len(b)-16:], want)
		}
		if tag, ok := Tag(sample(32), sample(12), data, b[:len(plain)]); wire.Hex(tag) != want || !ok {
			t.Errorf("%v: Tag = %x, %v, want %s", lengths, tag, ok, want)
		}
	}
}

// P12.1: what the tag is made of, written out.
func TestTag(t *testing.T) {
	const zeros = "00000000000000000000000000000000"
	block, _ := chacha.Block(sample(32), 0, sample(12))
	for _, c := range []struct{ data, cipher, text string }{
		{"", "", zeros},
		{"00", "", zeros + "01000000000000000000000000000000"},
		{"", "00", zeros + "00000000000000000100000000000000"},
		{"01", "02", "01000000000000000000000000000000" + "02000000000000000000000000000000" + "01000000000000000100000000000000"},
		{
			"000102030405060708090a0b0c0d0e", "101112131415161718191a1b1c1d1e1f",
			"000102030405060708090a0b0c0d0e00" + "101112131415161718191a1b1c1d1e1f" + "0f000000000000001000000000000000",
		},
		{
			"000102030405060708090a0b0c0d0e0f", "101112131415161718191a1b1c1d1e1f20",
			"000102030405060708090a0b0c0d0e0f" + "101112131415161718191a1b1c1d1e1f" + "20000000000000000000000000000000" +
				"10000000000000001100000000000000",
		},
	} {
		want, _ := poly1305.Sum(block[:32], bytesOf(t, c.text))
		if tag, ok := Tag(sample(32), sample(12), bytesOf(t, c.data), bytesOf(t, c.cipher)); !bytes.Equal(tag, want) || !ok {
			t.Errorf("Tag of %s and %s = %x, %v, want %x", c.data, c.cipher, tag, ok, want)
		}
	}
}

// P12.1: all lengths up to some pieces, and those from which on a length has more bytes.
func TestTagLengths(t *testing.T) {
	key, nonce := sample(32), sample(12)
	check := func(data, cipher []byte) {
		t.Helper()
		if tag, ok := Tag(key, nonce, data, cipher); !bytes.Equal(tag, tagOf(key, nonce, data, cipher)) || len(tag) != 16 || !ok {
			t.Errorf("Tag of %d and %d bytes = %x, %v", len(data), len(cipher), tag, ok)
		}
	}
	for d := range 66 {
		for c := range 66 {
			check(sample(d), sample(c))
		}
	}
	for _, n := range []int{255, 256, 257, 511, 65535, 65536, 65537, 1 << 24} {
		check(sample(n), nil)
		check(nil, sample(n))
		check(sample(n), sample(35))
	}
}

// P12.1: zeros behind data or cipher count, as do bytes that move from one to the other.
func TestTagsDiffer(t *testing.T) {
	seen := map[string][2]int{}
	for d := range 50 {
		for c := range 50 {
			tag, _ := Tag(sample(32), sample(12), make([]byte, d), make([]byte, c))
			if other, twice := seen[string(tag)]; twice {
				t.Errorf("%d and %d zeros have the tag of %v", d, c, other)
			}
			seen[string(tag)] = [2]int{d, c}
		}
	}
}

// P12.2: all lengths up to some blocks, with P12.3: sealed bytes are 16 more, and Open returns the plain ones.
func TestSealLengths(t *testing.T) {
	key, nonce := sample(32), sample(12)
	for n := range 330 {
		for _, d := range []int{0, 1, 8, 16, 33} {
			data, plain := sample(d), sample(n)
			b := sealed(t, key, nonce, data, plain)
			if len(b) != n+16 || !bytes.Equal(b, sealedOf(key, nonce, data, plain)) {
				t.Errorf("Seal of %d and %d bytes = %x", d, n, b)
			}
			checkOpen(t, key, nonce, data, b, plain)
		}
	}
	for _, n := range []int{4096, 8192, 1 << 18} {
		b := sealed(t, key, nonce, nil, sample(n))
		if !bytes.Equal(b, sealedOf(key, nonce, nil, sample(n))) {
			t.Errorf("Seal of %d bytes is another", n)
		}
		checkOpen(t, key, nonce, nil, b, sample(n))
	}
}

// P12.2: nothing is sealed and opened too, and a nil list is an empty one.
func TestNothing(t *testing.T) {
	for _, none := range [][]byte{nil, {}, sample(100)[:0]} {
		b := sealed(t, sample(32), sample(12), none, none)
		if wire.Hex(b) != "ef05cb6fde24741c25f8cd85f23a4c80" {
			t.Errorf("Seal of nothing = %x", b)
		}
		checkOpen(t, sample(32), sample(12), none, b, nil)
		if tag, ok := Tag(sample(32), sample(12), none, none); !bytes.Equal(tag, b) || !ok {
			t.Errorf("Tag of nothing = %x, %v", tag, ok)
		}
	}
}

// P12.1, P12.2: other lengths of key and nonce are refused ahead of all else, and spare capacity does not count.
func TestKeyLengths(t *testing.T) {
	right := sealed(t, sample(32), sample(12), nil, nil)
	check := func(k, n int) {
		t.Helper()
		key, nonce, fits := spare(sample(k)), spare(sample(n)), k == 32 && n == 12
		if tag, ok := Tag(key, nonce, nil, nil); ok != fits || !fits && len(tag) != 0 {
			t.Errorf("Tag with %d and %d bytes = %x, %v", k, n, tag, ok)
		}
		for _, b := range [][]byte{nil, {}, {0}, sample(100)} {
			if out, e := Seal(key, nonce, b, b); (e == api.OK) != fits || !fits && (e != api.ErrKey || len(out) != 0) {
				t.Errorf("Seal with %d and %d bytes = %x, %d", k, n, out, e)
			}
		}
		for _, b := range [][]byte{nil, {}, {0}, sample(15), sample(16), sample(100), right} {
			if !fits {
				checkRefused(t, "lengths", key, nonce, nil, b, api.ErrKey)
			}
		}
		checkSpare(t, "key", key, sample(k))
		checkSpare(t, "nonce", nonce, sample(n))
	}
	for k := range 70 {
		for n := range 30 {
			check(k, n)
		}
	}
	for _, c := range [][2]int{{32 + 256, 12}, {32, 12 + 256}, {32 + 1<<16, 12}, {32, 12 + 1<<16}, {1 << 16, 1 << 16}} {
		check(c[0], c[1])
	}
	if b, e := Seal(nil, nil, nil, nil); len(b) != 0 || e != api.ErrKey {
		t.Errorf("Seal without a key and a nonce = %x, %d", b, e)
	}
	checkRefused(t, "no key and no nonce", nil, nil, nil, right, api.ErrKey)
}

// P12.2: fewer than 16 bytes are refused, whatever they are and whatever lies behind them.
func TestShort(t *testing.T) {
	key, nonce := sample(32), sample(12)
	right := sealed(t, key, nonce, nil, nil)
	for n := range 16 {
		for _, b := range [][]byte{right[:n], right[16-n:], make([]byte, n), sample(n)} {
			for _, data := range [][]byte{nil, {0}, sample(40)} {
				checkRefused(t, "short", key, nonce, data, b, api.ErrShort)
			}
		}
	}
	checkRefused(t, "nil", key, nonce, nil, nil, api.ErrShort)
	checkRefused(t, "16 bytes", key, nonce, nil, make([]byte, 16), api.ErrTag)
}

// P12.2, P12.3: each bit of the key, the nonce, the data, the cipher and the tag counts.
func TestChangedBits(t *testing.T) {
	key, nonce := sample(32), sample(12)
	for _, c := range [][2]int{{0, 0}, {5, 0}, {0, 5}, {12, 70}, {33, 64}} {
		data, plain := sample(c[0]), sample(c[1])
		b := sealed(t, key, nonce, data, plain)
		for bit := range 8 * len(b) {
			checkRefused(t, "sealed bytes", key, nonce, data, changed(b, bit/8, 1<<(bit%8)), api.ErrTag)
		}
		for bit := range 8 * len(data) {
			checkRefused(t, "data", key, nonce, changed(data, bit/8, 1<<(bit%8)), b, api.ErrTag)
		}
		for bit := range 8 * len(key) {
			checkRefused(t, "key", changed(key, bit/8, 1<<(bit%8)), nonce, data, b, api.ErrTag)
		}
		for bit := range 8 * len(nonce) {
			checkRefused(t, "nonce", key, changed(nonce, bit/8, 1<<(bit%8)), data, b, api.ErrTag)
		}
	}
}

// P12.2, P12.3: two changes of a tag do not make up for each other, nor do all of them, nor does another order.
func TestChangedTags(t *testing.T) {
	key, nonce := sample(32), sample(12)
	for _, n := range []int{0, 20} {
		b := sealed(t, key, nonce, nil, sample(n))
		for i := n; i < len(b); i++ {
			for k := i + 1; k < len(b); k++ {
				for _, mask := range []byte{1, 2, 16, 128, 255} {
					checkRefused(t, "one mask", key, nonce, nil, changed(changed(b, i, mask), k, mask), api.ErrTag)
				}
				other := bytes.Clone(b)
				other[i], other[k] = b[k], b[i]
				if b[i] != b[k] {
					checkRefused(t, "exchanged", key, nonce, nil, other, api.ErrTag)
				}
				other[i], other[k] = b[i]+1, b[k]-1
				checkRefused(t, "the same sum", key, nonce, nil, other, api.ErrTag)
			}
		}
		for mask := 1; mask < 256; mask++ {
			other := bytes.Clone(b)
			for i := n; i < len(b); i++ {
				other[i] ^= byte(mask)
			}
			checkRefused(t, "all bytes", key, nonce, nil, other, api.ErrTag)
		}
		checkRefused(t, "zeros", key, nonce, nil, append(bytes.Clone(b[:n]), make([]byte, 16)...), api.ErrTag)
	}
}

// P12.2: bytes that are added, taken away or moved are refused.
func TestOtherBorders(t *testing.T) {
	key, nonce, data, plain := sample(32), sample(12), sample(20), sample(40)
	b := sealed(t, key, nonce, data, plain)
	for n := 1; n < len(b)-16; n++ {
		checkRefused(t, "the end is gone", key, nonce, data, b[:len(b)-n], api.ErrTag)
		checkRefused(t, "the beginning is gone", key, nonce, data, b[n:], api.ErrTag)
		checkRefused(t, "longer", key, nonce, data, append(bytes.Clone(b), sample(n)...), api.ErrTag)
		checkRefused(t, "zeros ahead of the tag", key, nonce, data, append(append(bytes.Clone(b[:40]), make([]byte, n)...), b[40:]...), api.ErrTag)
		checkRefused(t, "more data", key, nonce, append(sample(20), make([]byte, n)...), b, api.ErrTag)
		checkRefused(t, "cipher as data", key, nonce, append(sample(20), b[:n]...), b[n:], api.ErrTag)
	}
	for n := range data {
		checkRefused(t, "less data", key, nonce, data[:n], b, api.ErrTag)
		checkRefused(t, "data as cipher", key, nonce, data[:n], append(bytes.Clone(data[n:]), b...), api.ErrTag)
	}
	checkRefused(t, "the tag first", key, nonce, data, append(bytes.Clone(b[40:]), b[:40]...), api.ErrTag)
	checkRefused(t, "data and cipher exchanged", key, nonce, b[:40], append(bytes.Clone(data), b[40:]...), api.ErrTag)
	checkRefused(t, "twice", key, nonce, data, append(bytes.Clone(b), b...), api.ErrTag)
}

// P12.2, P12.3: many keys, nonces and texts, each made of what was sealed before.
func TestSealOfSealed(t *testing.T) {
	b := sample(160)
	for i := range 500 {
		key, nonce, data, plain := b[:32], b[32:44], b[44:44+i%40], b[84:160-i%70]
		next, e := Seal(key, nonce, data, plain)
		if want := sealedOf(key, nonce, data, plain); !bytes.Equal(next, want) || e != api.OK {
			t.Fatalf("Seal(%x, %x, %x, %x) = %x, %d, want %x", key, nonce, data, plain, next, e, want)
		}
		checkOpen(t, key, nonce, data, next, plain)
		b = append(next, b...)[:160]
	}
}

// R2: arguments and their spare capacity stay as they are, whatever is done with the result.
func TestArgumentsStay(t *testing.T) {
	for n := range 100 {
		key, nonce, data, plain := spare(sample(32)), spare(sample(12)), spare(sample(n/2)), spare(sample(n))
		want := sealedOf(sample(32), sample(12), sample(n/2), sample(n))
		b, _ := Seal(key, nonce, data, plain)
		if !bytes.Equal(b, want) {
			t.Errorf("Seal of %d bytes with spare capacity = %x", n, b)
		}
		clear(b[:cap(b)])
		full := spare(want)
		out, _ := Open(key, nonce, data, full)
		if !bytes.Equal(out, sample(n)) {
			t.Errorf("Open of %d bytes with spare capacity = %x", n, out)
		}
		clear(out[:cap(out)])
		cipher := spare(want[:n])
		tag, _ := Tag(key, nonce, data, cipher)
		clear(tag[:cap(tag)])
		checkSpare(t, "sealed", full, want)
		checkSpare(t, "cipher", cipher, want[:n])
		checkSpare(t, "key", key, sample(32))
		checkSpare(t, "nonce", nonce, sample(12))
		checkSpare(t, "data", data, sample(n/2))
		checkSpare(t, "plain", plain, sample(n))
	}
	// A refused list stays too, as does one of which the other arguments are parts.
	b := spare(sample(60))
	checkRefused(t, "sample", sample(32), sample(12), nil, b, api.ErrTag)
	checkSpare(t, "refused", b, sample(60))
	if out, e := Seal(b[:32], b[20:32], b[10:50], b); !bytes.Equal(out, sealedOf(b[:32], b[20:32], b[10:50], b)) || e != api.OK {
		t.Errorf("Seal of bytes with their key = %x, %d", out, e)
	}
	checkSpare(t, "parts", b, sample(60))
}

// R2: who changes a result changes no later one.
func TestResultsAreNew(t *testing.T) {
	want := sealedOf(sample(32), sample(12), sample(9), sample(50))
	for range 3 {
		b, _ := Seal(sample(32), sample(12), sample(9), sample(50))
		if !bytes.Equal(b, want) {
			t.Errorf("Seal = %x, want %x", b, want)
		}
		out, _ := Open(sample(32), sample(12), sample(9), want)
		if !bytes.Equal(out, sample(50)) {
			t.Errorf("Open = %x", out)
		}
		tag, _ := Tag(sample(32), sample(12), sample(9), want[:50])
		if !bytes.Equal(tag, want[50:]) {
			t.Errorf("Tag = %x", tag)
		}
		for _, result := range [][]byte{b, out, tag} {
			clear(result[:cap(result)])
		}
	}
}
