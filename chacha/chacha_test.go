package chacha

import (
	"bytes"
	standard "crypto/sha256"
	"encoding/binary"
	"math"
	"math/bits"
	"testing"

	"ipsecgate/api"
	"ipsecgate/wire"
)

const all = math.MaxUint32

// sample returns n bytes that differ by n and do not repeat after one block.
func sample(n int) []byte {
	b := make([]byte, n)
	for i := range b {
		b[i] = byte(i*167 + i/64*31 + n*7 + 13)
	}
	return b
}

// counted returns n bytes, each of them one more than that ahead of it.
func counted(from, n int) []byte {
	b := make([]byte, n)
	for i := range b {
		b[i] = byte(from + i)
	}
	return b
}

// bytesOf returns the bytes of a text of wire.Hex.
func bytesOf(t *testing.T, text string) []byte {
	t.Helper()
	b, e := wire.Unhex(text)
	if e != api.OK {
		t.Fatalf("%s is not hexadecimal", text)
	}
	return b
}

// spare returns b with spare capacity that is filled with a mark.
func spare(b []byte) []byte {
	return append(bytes.Clone(b), bytes.Repeat([]byte{0xa5}, 80)...)[:len(b)]
}

// checkSpare fails if b or its spare capacity is no longer as spare made it.
func checkSpare(t *testing.T, name string, b, want []byte) {
	t.Helper()
	if !bytes.Equal(b, want) || !bytes.Equal(b[len(b):len(b)+80], bytes.Repeat([]byte{0xa5}, 80)) {
		t.Errorf("%s: the argument of %d bytes became %x", name, len(want), b[:len(b)+80])
	}
}

// row is a row of the state, or a word of it in each column.
type row [4]uint32

func (r row) plus(s row) row {
	for i := range r {
		r[i] += s[i]
	}
	return r
}

func (r row) xorTurned(s row, n int) row {
	for i := range r {
		r[i] = bits.RotateLeft32(r[i]^s[i], n)
	}
	return r
}

func (r row) moved(n int) row { return row{r[n%4], r[(n+1)%4], r[(n+2)%4], r[(n+3)%4]} }

// oracle computes a block by rows: the diagonals are columns once the rows are moved.
func oracle(key []byte, counter uint32, nonce []byte) []byte {
	var words [16]uint32
	begin := append([]byte("expand 32-byte k"), key...)
	begin = append(binary.LittleEndian.AppendUint32(begin, counter), nonce...)
	for i := range words {
		words[i] = binary.LittleEndian.Uint32(begin[4*i:])
	}
	a, b, c, d := row(words[:4]), row(words[4:8]), row(words[8:12]), row(words[12:])
	for i := range 20 {
		a = a.plus(b)
		d = d.xorTurned(a, 16)
		c = c.plus(d)
		b = b.xorTurned(c, 12)
		a = a.plus(b)
		d = d.xorTurned(a, 8)
		c = c.plus(d)
		b = b.xorTurned(c, 7)
		if i%2 == 0 {
			b, c, d = b.moved(1), c.moved(2), d.moved(3)
		} else {
			b, c, d = b.moved(3), c.moved(2), d.moved(1)
		}
	}
	var out []byte
	for i, r := range []row{a, b, c, d} {
		for _, word := range r.plus(row(words[4*i:])) {
			out = binary.LittleEndian.AppendUint32(out, word)
		}
	}
	return out
}

// xored returns what Xor should, from the oracle.
func xored(key []byte, counter uint32, nonce, b []byte) []byte {
	out := bytes.Clone(b)
	var stream []byte
	for i := range out {
		if i%64 == 0 {
			stream = oracle(key, counter, nonce)
			counter++
		}
		out[i] ^= stream[i%64]
	}
	return out
}

// undone returns what Quarter made a, b, c, d of.
func undone(a, b, c, d uint32) (uint32, uint32, uint32, uint32) {
	b = bits.RotateLeft32(b, -7) ^ c
	c -= d
	d = bits.RotateLeft32(d, -8) ^ a
	a -= b
	b = bits.RotateLeft32(b, -12) ^ c
	c -= d
	d = bits.RotateLeft32(d, -16) ^ a
	return a - b, b, c, d
}

// P10.1: the example, a vector of RFC 8439, and values of another computation.
func TestQuarter(t *testing.T) {
	for _, c := range []struct{ in, want [4]uint32 }{
		{[4]uint32{0x11111111, 0x01020304, 0x9b8d6f43, 0x01234567}, [4]uint32{0xea2a92f4, 0xcb1cf8ce, 0x4581472e, 0x5881c4bb}},
		{[4]uint32{0x516461b1, 0x2a5f714c, 0x53372767, 0x3d631689}, [4]uint32{0xbdb886dc, 0xcfacafd2, 0xe46bea80, 0xccc07c79}},
		{[4]uint32{}, [4]uint32{}},
		{[4]uint32{all, all, all, all}, [4]uint32{0xf0000ffd, 0x88790878, 0x0110fdef, 0x010ffdf0}},
		{[4]uint32{1, 0, 0, 0}, [4]uint32{0x10000001, 0x80808808, 0x01010110, 0x01000110}},
		{[4]uint32{0, 1, 0, 0}, [4]uint32{0x10001001, 0x88888808, 0x01110110, 0x01100110}},
		{[4]uint32{0, 0, 1, 0}, [4]uint32{0x00001000, 0x08080080, 0x00100001, 0x00100000}},
		{[4]uint32{0, 0, 0, 1}, [4]uint32{0x10000000, 0x80800808, 0x01010010, 0x01000010}},
		{[4]uint32{1 << 31, 1 << 31, 1 << 31, 1 << 31}, [4]uint32{0x08000000, 0x40400444, 0x80808008, 0x00800008}},
		{[4]uint32{0x01234567, 0x89abcdef, 0xfedcba98, 0x76543210}, [4]uint32{0x127cddee, 0xf4737f6e, 0x5a452c66, 0x3a217533}},
	} {
		var got [4]uint32
		got[0], got[1], got[2], got[3] = Quarter(c.in[0], c.in[1], c.in[2], c.in[3])
		if got != c.want {
			t.Errorf("Quarter(%x) = %x, want %x", c.in, got, c.want)
		}
	}
}

// P10.1, P10.4: the words can be found again, so that no two inputs have one result.
func TestQuarterIsOneToOne(t *testing.T) {
	check := func(in [4]uint32) {
		t.Helper()
		var back [4]uint32
		back[0], back[1], back[2], back[3] = undone(Quarter(in[0], in[1], in[2], in[3]))
		if back != in {
			t.Errorf("Quarter(%x) is that of %x", in, back)
		}
	}
	words := []uint32{0, 1, 2, 1<<31 - 1, 1 << 31, 1<<31 + 1, all - 1, all, 0x61707865, 0x01234567, 0xfedcba98}
	for _, a := range words {
		for _, b := range words {
			for _, c := range words {
				for _, d := range words {
					check([4]uint32{a, b, c, d})
				}
			}
		}
	}
	for place := range 4 {
		for bit := range 32 {
			var in [4]uint32
			in[place] = 1 << bit
			check(in)
		}
	}
}

// P10.2: the vectors of RFC 8439, and blocks that OpenSSL computed.
func TestBlock(t *testing.T) {
	zeros := make([]byte, 64)
	for _, c := range []struct {
		key     []byte
		counter uint32
		nonce   []byte
		want    string
	}{
		{
			counted(0, 32), 1, []byte{0, 0, 0, 9, 0, 0, 0, 0x4a, 0, 0, 0, 0},
			"10f1e7e4d13b5915500fdd1fa32071c4c7d1f4c733c068030422aa9ac3d46c4ed2826446079faa0914c2d705d98b02a2b5129cd1de164eb9cbd083e8a2503c4e",
		},
		{
			zeros[:32], 0, zeros[:12],
			"76b8e0ada0f13d90405d6ae55386bd28bdd219b8a08ded1aa836efcc8b770dc7da41597c5157488d7724e03fb8d84a376a43b8f41518a11cc387b669b2ee6586",
		},
		{
			zeros[:32], 1, zeros[:12],
			"9f07e7be5551387a98ba977c732d080dcb0f29a048e3656912c6533e32ee7aed29b721769ce64e43d57133b074d839d531ed1f28510afb45ace10a1f4b794d6f",
		},
		{
			append(make([]byte, 31), 1), 1, zeros[:12],
			"3aeb5224ecf849929b9d828db1ced4dd832025e8018b8160b82284f3c949aa5a8eca00bbb4a73bdad192b5c42f73f2fd4e273644c8b36125a64addeb006c13a0",
		},
		{
			append([]byte{0, 255}, make([]byte, 30)...), 2, zeros[:12],
			"72d54dfbf12ec44b362692df94137f328fea8da73990265ec1bbbea1ae9af0ca13b25aa26cb4a648cb9b9d1be65b2c0924a66c54d545ec1b7374f4872e99f096",
		},
		{
			zeros[:32], 0, append(make([]byte, 11), 2),
			"c2c64d378cd536374ae204b9ef933fcd1a8b2288b3dfa49672ab765b54ee27c78a970e0e955c14f3a88e741b97c286f75f8fc299e8148362fa198a39531bed6d",
		},
		{
			bytes.Repeat([]byte{255}, 32), all, bytes.Repeat([]byte{255}, 12),
			"d72b21cfa4b6b0c41d61f62b8a11159c6a4f63bc56c2035796c7ad37811121bbec56d54a530f3a933dd28a50feb23bfaf64f405be985f3718bdf4683e96be749",
		},
		{
			sample(32), 0x80000001, sample(12),
			"dbce2a80c5dcd70b9d9be277ece452742c524ea53dfaec421c0029fa21576bb368474df0074ffe63510f42e3cce6ba24fbb40d58ac1dabf202ed73cab0590fd3",
		},
		{
			counted(128, 32), 0x01020304, counted(240, 12),
			"1728da1bf736a7ebc73f4f349deb28b3b0356ca4bc4aff69c0a4f45364cbe65e0cb0ffbe697c8b6f3709bbe7ad44d97659cd7edf088178c888403223e1926504",
		},
	} {
		if b, ok := Block(c.key, c.counter, c.nonce); wire.Hex(b) != c.want || !ok {
			t.Errorf("Block(%x, %d, %x) = %x, %v, want %s", c.key, c.counter, c.nonce, b, ok, c.want)
		}
	}
}

// P10.2: each bit of the key, the counter and the nonce has its place.
func TestBlockBits(t *testing.T) {
	check := func(key []byte, counter uint32, nonce []byte) {
		t.Helper()
		if b, ok := Block(key, counter, nonce); !bytes.Equal(b, oracle(key, counter, nonce)) || !ok {
			t.Errorf("Block(%x, %d, %x) = %x, %v", key, counter, nonce, b, ok)
		}
	}
	for bit := range 256 {
		key := make([]byte, 32)
		key[bit/8] = 1 << (bit % 8)
		check(key, 0, make([]byte, 12))
	}
	for bit := range 32 {
		check(make([]byte, 32), 1<<bit, make([]byte, 12))
		check(sample(32), all-1<<bit, sample(12))
	}
	for bit := range 96 {
		nonce := make([]byte, 12)
		nonce[bit/8] = 1 << (bit % 8)
		check(make([]byte, 32), 0, nonce)
	}
}

// P10.2: a block that is made of another one takes every word through many values.
func TestBlockOfBlocks(t *testing.T) {
	b := sample(64)
	for range 2000 {
		key, counter, nonce := b[:32], binary.LittleEndian.Uint32(b[32:]), b[36:48]
		next, ok := Block(key, counter, nonce)
		if want := oracle(key, counter, nonce); !bytes.Equal(next, want) || !ok {
			t.Fatalf("Block(%x, %d, %x) = %x, %v, want %x", key, counter, nonce, next, ok, want)
		}
		b = next
	}
}

// P10.2, P10.3: other lengths are refused, whatever else is right, and spare capacity does not count.
func TestLengths(t *testing.T) {
	for k := range 70 {
		for n := range 30 {
			right := k == 32 && n == 12
			key, nonce := spare(sample(k)), spare(sample(n))
			if b, ok := Block(key, 1, nonce); ok != right || !right && len(b) != 0 {
				t.Errorf("Block with %d and %d bytes = %x, %v", k, n, b, ok)
			}
			for _, plain := range [][]byte{nil, {}, {0}, sample(64), sample(200)} {
				if b, ok := Xor(key, 1, nonce, plain); ok != right || !right && len(b) != 0 {
					t.Errorf("Xor of %d bytes with %d and %d = %x, %v", len(plain), k, n, b, ok)
				}
			}
			checkSpare(t, "key", key, sample(k))
			checkSpare(t, "nonce", nonce, sample(n))
		}
	}
	for _, c := range []struct{ key, nonce []byte }{
		{nil, nil},
		{nil, sample(12)},
		{sample(32), nil},
		{sample(12), sample(32)},
		{sample(16), sample(12)},
		{sample(32), sample(8)},
		{sample(32), sample(24)},
		{sample(32 + 256), sample(12)},
		{sample(32), sample(12 + 256)},
		{sample(1 << 16), sample(1 << 16)},
	} {
		if b, ok := Block(c.key, 0, c.nonce); len(b) != 0 || ok {
			t.Errorf("Block with %d and %d bytes = %x, %v", len(c.key), len(c.nonce), b, ok)
		}
		if b, ok := Xor(c.key, 0, c.nonce, []byte{1}); len(b) != 0 || ok {
			t.Errorf("Xor with %d and %d bytes = %x, %v", len(c.key), len(c.nonce), b, ok)
		}
	}
}

// P10.3: vectors of RFC 8439.
func TestXor(t *testing.T) {
	for _, c := range []struct {
		key     string
		counter uint32
		nonce   string
		text    string
		want    string
	}{
		{
			wire.Hex(counted(0, 32)), 1, "000000000000004a00000000",
			"Ladies and Gentlemen of the class of '99: If I could offer you only one tip for the future, sunscreen would be it.",
			"6e2e359a2568f98041ba0728dd0d6981e97e7aec1d4360c20a27afccfd9fae0bf91b65c5524733ab8f593dabcd62b3571639d624e65152ab8f530c359f0861d8" +
				"07ca0dbf500d6a6156a38e088a22b65e52bc514d16ccf806818ce91ab77937365af90bbf74a35be6b40b8eedf2785e42874d",
		},
		{
			"1c9240a5eb55d38af333888604f6b5f0473917c1402b80099dca5cbc207075c0", 42, "000000000000000000000002",
			"'Twas brillig, and the slithy toves\nDid gyre and gimble in the wabe:\nAll mimsy were the borogoves,\nAnd the mome raths outgrabe.",
			"62e6347f95ed87a45ffae7426f27a1df5fb69110044c0d73118effa95b01e5cf166d3df2d721caf9b21e5fb14c616871fd84c54f9d65b283196c7fe4f60553eb" +
				"f39c6402c42234e32a356b3e764312a61a5532055716ead6962568f87d3f3f7704c6a8d1bcd1bf4d50d6154b6da731b187b58dfd728afa36757a797ac188d1",
		},
	} {
		b, ok := Xor(bytesOf(t, c.key), c.counter, bytesOf(t, c.nonce), []byte(c.text))
		if wire.Hex(b) != c.want || !ok {
			t.Errorf("Xor(%q) = %x, %v, want %s", c.text, b, ok, c.want)
		}
	}
}

// P10.3: all lengths up to some blocks, under counters of which some wrap around.
func TestXorLengths(t *testing.T) {
	key, nonce := sample(32), sample(12)
	for _, counter := range []uint32{0, 1, 255, 256, 65535, 1<<24 - 1, 1<<31 - 1, 1 << 31, all - 3, all - 1, all} {
		for n := range 330 {
			want := xored(key, counter, nonce, sample(n))
			if b, ok := Xor(key, counter, nonce, sample(n)); !bytes.Equal(b, want) || !ok {
				t.Errorf("Xor(%x, %d, %x, %x) = %x, %v, want %x", key, counter, nonce, sample(n), b, ok, want)
			}
		}
	}
}

// P10.3: no bytes become no bytes.
func TestXorNothing(t *testing.T) {
	for _, b := range [][]byte{nil, {}, sample(100)[:0]} {
		if out, ok := Xor(sample(32), 7, sample(12), b); len(out) != 0 || !ok {
			t.Errorf("Xor of nothing = %x, %v", out, ok)
		}
	}
}

// P10.3: behind the greatest counter comes 0, and the nonce stays: values of another computation.
func TestXorWraps(t *testing.T) {
	want := "2530da16fdc6c9ca4c6b9e71ac23b3345b34ff3adce882e5f6a4c2ad9c92e1dcbec887cdce919ba4c22cf78e6c9a616101afaa507cf6ee3278ccc2f8653572b6" +
		"471f9a5a0ed0e060fdf617b07f48b483da5e8a62cf205b1b6a03b08557e0aa7b315cc505e324ec861d28c2e66a6c373412075844649b71f37f62b512ba7f8ea0" +
		"6c3d"
	if b, ok := Xor(sample(32), all, sample(12), make([]byte, 130)); wire.Hex(b) != want || !ok {
		t.Errorf("Xor = %x, %v, want %s", b, ok, want)
	}
}

// P10.3: more than 2^8 and 2^10 blocks; the hash is of what OpenSSL computed.
func TestXorLong(t *testing.T) {
	b, ok := Xor(sample(32), 7, sample(12), sample(70000))
	got := standard.Sum256(b)
	if want := "ca1dd2d6ef188268c5f2468fed0108b189f553fdb16c07ba8c4fc5012022e091"; wire.Hex(got[:]) != want || len(b) != 70000 || !ok {
		t.Errorf("Xor of 70000 bytes: %d bytes, hash %x, %v", len(b), got, ok)
	}
}

// P10.3: the bytes of zeros are the blocks themselves.
func TestXorIsBlocks(t *testing.T) {
	key, nonce := sample(32), sample(12)
	var want []byte
	for _, counter := range []uint32{all - 1, all, 0, 1} {
		block, _ := Block(key, counter, nonce)
		want = append(want, block...)
	}
	if b, ok := Xor(key, all-1, nonce, make([]byte, 256)); !bytes.Equal(b, want) || !ok {
		t.Errorf("Xor = %x, %v, want %x", b, ok, want)
	}
}

// P10.4
func TestXorTwice(t *testing.T) {
	key, nonce := sample(32), sample(12)
	for _, counter := range []uint32{0, 5, all - 1} {
		for n := range 300 {
			once, _ := Xor(key, counter, nonce, sample(n))
			if twice, ok := Xor(key, counter, nonce, once); !bytes.Equal(twice, sample(n)) || !ok {
				t.Errorf("Xor of Xor of %x = %x, %v", sample(n), twice, ok)
			}
		}
	}
}

// P10.4
func TestXorIsBeginning(t *testing.T) {
	key, nonce, b := sample(32), sample(12), sample(400)
	long, _ := Xor(key, all-2, nonce, b)
	for n := range b {
		if out, ok := Xor(key, all-2, nonce, b[:n]); !bytes.Equal(out, long[:n]) || !ok {
			t.Errorf("Xor of %d bytes = %x, %v", n, out, ok)
		}
	}
}

// R2: arguments and their spare capacity stay as they are, whatever is done with the results.
func TestArgumentsStay(t *testing.T) {
	for n := range 150 {
		key, nonce, b := spare(sample(32)), spare(sample(12)), spare(sample(n))
		block, _ := Block(key, 1, nonce)
		clear(block[:cap(block)])
		out, _ := Xor(key, 1, nonce, b)
		clear(out[:cap(out)])
		checkSpare(t, "key", key, sample(32))
		checkSpare(t, "nonce", nonce, sample(12))
		checkSpare(t, "bytes", b, sample(n))
	}
}

// R2: who changes a result changes no later one.
func TestResultsAreNew(t *testing.T) {
	key, nonce := sample(32), sample(12)
	block, _ := Block(key, 3, nonce)
	clear(block[:cap(block)])
	if again, _ := Block(key, 3, nonce); !bytes.Equal(again, oracle(key, 3, nonce)) {
		t.Errorf("Block became %x", again)
	}
	out, _ := Xor(key, 3, nonce, sample(100))
	clear(out[:cap(out)])
	if again, _ := Xor(key, 3, nonce, sample(100)); !bytes.Equal(again, xored(key, 3, nonce, sample(100))) {
		t.Errorf("Xor became %x", again)
	}
}
