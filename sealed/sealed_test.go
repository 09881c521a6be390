package sealed

import (
	"bytes"
	"crypto/sha256"
	"encoding/binary"
	"math"
	"slices"
	"testing"

	"ipsecgate/aead"
	"ipsecgate/api"
	"ipsecgate/header"
	"ipsecgate/wire"
)

// What a sample is for: samples of one length differ by it.
const (
	ofKey = iota + 1
	ofInner
	ofOther
)

// sample returns n bytes that have no order.
func sample(n, of int) []byte {
	b := make([]byte, n)
	for i := range b {
		b[i] = byte(i*167 + i/64*31 + of*59 + 13)
	}
	return b
}

// spareBytes is how many bytes behind a list spare marks.
const spareBytes = 80

// spare returns b with spare capacity that is filled with a mark.
func spare(b []byte) []byte {
	return append(bytes.Clone(b), bytes.Repeat([]byte{0xa5}, spareBytes)...)[:len(b)]
}

// checkSpare fails if b or its spare capacity is no longer as spare made it.
func checkSpare(t *testing.T, name string, b, want []byte) {
	t.Helper()
	if !bytes.Equal(b, want) || !bytes.Equal(b[len(b):len(b)+spareBytes], bytes.Repeat([]byte{0xa5}, spareBytes)) {
		t.Errorf("%s: the argument of %d bytes became %x", name, len(want), b[:len(b)+spareBytes])
	}
}

// changed returns b with another byte at a place.
func changed(b []byte, at int, mask byte) []byte {
	b = bytes.Clone(b)
	b[at] ^= mask
	return b
}

// bytesOf returns the bytes of a text of wire.Hex.
func bytesOf(t *testing.T, text string) []byte {
	t.Helper()
	b, e := wire.Unhex(text)
	if e != api.OK {
		t.Fatalf("%s is not hexadecimal", text)
	}
	return b
}

var (
	key  = sample(36, ofKey)
	head = api.Header{Initiator: 0x0102030405060708, Responder: 0x1112131415161718, Next: 999, Exchange: 36, Flags: 40, ID: 0x01020304}
)

// withNext returns a header with another type of the first payload.
func withNext(h api.Header, next int) api.Header {
	h.Next = next
	return h
}

// form is a message that is written by hand, with all that a sender may choose, wrong or right.
type form struct {
	header  api.Header
	version byte // 0: 32
	flags   byte // beside those of the header
	first   byte
	bits    byte // the second byte of the payload
	between []byte
	iv      uint64
	plain   []byte // with the padding
	more    []byte // behind the payload
}

// whole is the form of an encrypted message with these plain bytes.
func whole(plain ...byte) form {
	return form{header: withNext(head, api.PayloadSealed), first: 33, iv: 0xf1f2f3f4f5f6f7f8, plain: plain}
}

// part is the form of a part with this number of so many parts.
func part(number, total int, plain ...byte) form {
	f := form{header: withNext(head, api.PayloadFragment), between: twoBytes(number, total), iv: 0xf1f2f3f4f5f6f7f8, plain: plain}
	if number == 1 {
		f.first = 33
	}
	return f
}

// twoBytes returns two numbers of two bytes each.
func twoBytes(a, b int) []byte {
	return binary.BigEndian.AppendUint16(binary.BigEndian.AppendUint16(nil, uint16(a)), uint16(b))
}

// bytes returns the message.
func (f form) bytes() []byte {
	n := 4 + len(f.between) + 8 + len(f.plain) + 16
	version := f.version
	if version == 0 {
		version = 32
	}
	b := binary.BigEndian.AppendUint64(nil, f.header.Initiator)
	b = binary.BigEndian.AppendUint64(b, f.header.Responder)
	b = append(b, byte(f.header.Next), version, byte(f.header.Exchange), byte(f.header.Flags)|f.flags)
	b = binary.BigEndian.AppendUint32(b, f.header.ID)
	b = binary.BigEndian.AppendUint32(b, uint32(28+n+len(f.more)))
	b = append(b, f.first, f.bits, byte(n>>8), byte(n))
	b = append(b, f.between...)
	iv := binary.BigEndian.AppendUint64(nil, f.iv)
	c, e := aead.Seal(key[:32], slices.Concat(key[32:], iv), b, f.plain)
	if e != api.OK {
		panic(e)
	}
	return slices.Concat(b, iv, c, f.more)
}

// longer returns b with bytes behind it, which the length of the message counts.
func longer(b []byte, more ...byte) []byte { return setLength(append(bytes.Clone(b), more...)) }

// shorter returns the first n bytes of b, where the length of the message says so.
func shorter(b []byte, n int) []byte { return setLength(bytes.Clone(b[:n])) }

// setLength writes the length of a message into its header.
func setLength(b []byte) []byte {
	binary.BigEndian.PutUint32(b[24:], uint32(len(b)))
	return b
}

// padded returns plain bytes with no padding.
func padded(inner []byte) []byte { return append(bytes.Clone(inner), 0) }

// checkSeal fails if Seal has another result than the message by hand.
func checkSeal(t *testing.T, h api.Header, first int, inner []byte, iv uint64) {
	t.Helper()
	f := whole(padded(inner)...)
	f.header, f.first, f.iv = withNext(h, api.PayloadSealed), byte(first), iv
	if b, e := Seal(h, first, inner, key, iv); !bytes.Equal(b, f.bytes()) || e != api.OK {
		t.Errorf("Seal(%v, %d, %.80x, %x) = %.200x, %d, want %.200x", h, first, inner, iv, b, e, f.bytes())
	}
}

// checkSealError fails if Seal has another error.
func checkSealError(t *testing.T, h api.Header, first int, inner, key []byte, want api.Errno) {
	t.Helper()
	if b, e := Seal(h, first, inner, key, 1); len(b) != 0 || e != want {
		t.Errorf("Seal(%v, %d, %d bytes, %d bytes) = %.80x, %d, want the error %d", h, first, len(inner), len(key), b, e, want)
	}
}

// checkOpen fails if Open does not return what is given.
func checkOpen(t *testing.T, name string, b []byte, h api.Header, first int, inner []byte) {
	t.Helper()
	if gotH, got, in, e := Open(b, key); gotH != h || got != first || !bytes.Equal(in, inner) || e != api.OK {
		t.Errorf("%s: Open(%.200x) = %v, %d, %.200x, %d, want %v, %d, %.200x", name, b, gotH, got, in, e, h, first, inner)
	}
}

// checkOpenError fails if Open has another error, or returns something with it.
func checkOpenError(t *testing.T, name string, b, key []byte, want api.Errno) {
	t.Helper()
	if h, first, in, e := Open(b, key); h != (api.Header{}) || first != 0 || len(in) != 0 || e != want {
		t.Errorf("%s: Open(%.200x) = %v, %d, %.200x, %d, want the error %d", name, b, h, first, in, e, want)
	}
}

// P17.1: the example of RFC 7634, appendix B, which has no padding.
func TestPublished(t *testing.T) {
	k := bytesOf(t, "808182838485868788898a8b8c8d8e8f909192939495969798999a9b9c9d9e9fa0a1a2a3")
	h := api.Header{Initiator: 0xc0c1c2c3c4c5c6c7, Responder: 0xd0d1d2d3d4d5d6d7, Next: 46, Exchange: 37, ID: 9}
	inner := bytesOf(t, "0000000c000040010000000a")
	want := bytesOf(t, "c0c1c2c3c4c5c6c7d0d1d2d3d4d5d6d72e202500000000090000004529000029"+"1011121314151617"+
		"610394701f8d017f7c129248896b71bfe25236efd7cdc67066906315b2")
	b, e := Seal(h, 41, inner, k, 0x1011121314151617)
	if !bytes.Equal(b, want) || e != api.OK {
		t.Errorf("Seal = %x, %d, want %x", b, e, want)
	}
	if got, first, in, e := Open(want, k); got != h || first != 41 || !bytes.Equal(in, inner) || e != api.OK {
		t.Errorf("Open = %v, %d, %x, %d", got, first, in, e)
	}
}

// P17.1: messages that a program in another language computed with OpenSSL.
func TestOthers(t *testing.T) {
	const start = "010203040506070811121314151617182e20242801020304000000"
	for n, want := range map[int]string{
		0: start + "392100001d" + "f1f2f3f4f5f6f7f8" + "99c8888f7440c50247b49726667325f8f7",
		1: start + "3a2100001e" + "f1f2f3f4f5f6f7f8" + "1a8fce95ec3921b7a142de1a21f93f1b16ef",
		5: start + "3e21000022" + "f1f2f3f4f5f6f7f8" + "1aa53dbeab70609b08b0b2c65fbd8ad32fb61a719e6c",
		63: start + "782100005c" + "f1f2f3f4f5f6f7f8" + "1aa53dbeabb68cfacb659a99a08e74b6d6a33233bbcabd0f5fb8eeead8c11030" +
			"678a9ff77456c55b26bced14fe08691bac6101f0077a524726badf21c03ed0815219e7b7f128d90de8b74fd0de861fc8",
		64: start + "792100005d" + "f1f2f3f4f5f6f7f8" + "1aa53dbeabb68cfacb659a99a08e74b6d6a33233bbcabd0f5fb8eeead8c11030" +
			"678a9ff77456c55b26bced14fe08691bac6101f0077a524726badf21c03ed01db9ab781c96bf4676a2904a17feea8198c5",
	} {
		b, e := Seal(head, 33, sample(n, ofInner), key, 0xf1f2f3f4f5f6f7f8)
		if wire.Hex(b) != want || e != api.OK {
			t.Errorf("Seal of %d bytes = %x, %d, want %s", n, b, e, want)
		}
		checkOpen(t, "another program", bytesOf(t, want), withNext(head, 46), 33, sample(n, ofInner))
	}
	for n, want := range map[int]string{
		255:  "3b921ae93f703fb85f2e8ea51e730d952759f34f888f963b8f99b938bd59ba6a",
		256:  "3285ae779c186cce0a5e333bce1a129e286d2c8ed176bf8cff4d2d230816b776",
		1000: "be11056e0cd25327e8ac5778d02edaef53b5df2fed6763dd0f498040d1c7f3cd",
		8134: "43237d7cdc66774a994145e98d05a68255ba3337dbdd6b35e0820e7b83a77c5a",
		8135: "e05fe04b85743d12c9c7c038a90766a41d91f169fac535b5c259dbe4f21ed25d",
	} {
		b, e := Seal(head, 33, sample(n, ofInner), key, 0xf1f2f3f4f5f6f7f8)
		if sum := sha256.Sum256(b); wire.Hex(sum[:]) != want || len(b) != n+57 || e != api.OK {
			t.Errorf("Seal of %d bytes has %d bytes, %d, and the sum %x, want %s", n, len(b), e, sum, want)
		}
	}
}

// P17.1, P17.2: a nil list is an empty one, and makes a message of 57 bytes.
func TestSealNothing(t *testing.T) {
	for _, none := range [][]byte{nil, {}, sample(90, ofOther)[:0]} {
		checkSeal(t, head, 33, none, 1)
		if b, e := Seal(head, 33, none, key, 1); len(b) != 57 || e != api.OK {
			t.Errorf("Seal of nothing has %d bytes, %d", len(b), e)
		}
		b, _ := Seal(head, 0, none, key, 1)
		checkOpen(t, "nothing", b, withNext(head, 46), 0, nil)
	}
}

// P17.1, P17.7: all lengths up to some blocks, and the greatest ones.
func TestSealLengths(t *testing.T) {
	check := func(n int) {
		t.Helper()
		checkSeal(t, head, n%256, sample(n, ofInner), uint64(n))
		b, _ := Seal(head, n%256, sample(n, ofInner), key, uint64(n))
		checkOpen(t, "lengths", b, withNext(head, 46), n%256, sample(n, ofInner))
	}
	for n := range 330 {
		check(n)
	}
	for _, n := range []int{1000, 4095, 4096, 4097, api.MaxMessage - 58, api.MaxMessage - 57} {
		check(n)
	}
}

// P17.1, P17.3: each type, each initial value, each header.
func TestSealFields(t *testing.T) {
	inner := sample(20, ofInner)
	for first := range 256 {
		checkSeal(t, head, first, inner, 1)
		f := whole(padded(inner)...)
		f.first = byte(first)
		checkOpen(t, "type", f.bytes(), f.header, first, inner)
	}
	for _, iv := range []uint64{0, 1, 255, 256, 1 << 32, 1<<63 - 1, 1 << 63, math.MaxUint64 - 1, math.MaxUint64, 0x0102030405060708} {
		checkSeal(t, head, 33, inner, iv)
		f := whole(padded(inner)...)
		f.iv = iv
		checkOpen(t, "initial value", f.bytes(), f.header, 33, inner)
	}
	for exchange := 34; exchange <= 37; exchange++ {
		for _, flags := range []int{0, 8, 16, 24, 32, 40, 48, 56} {
			for _, id := range []uint32{0, 1, 0x01020304, math.MaxUint32} {
				h := api.Header{Initiator: math.MaxUint64, Responder: 1, Exchange: exchange, Flags: flags, ID: id}
				if exchange == 34 {
					h.Responder, h.ID = 0, 0
				}
				checkSeal(t, h, 33, inner, 1)
				f := whole(padded(inner)...)
				f.header = withNext(h, 46)
				checkOpen(t, "header", f.bytes(), f.header, 33, inner)
			}
		}
	}
}

// P17.2, P17.4: the Next of the header does not count, whatever it is.
func TestNextDoesNotCount(t *testing.T) {
	for _, next := range []int{math.MinInt, -1, 0, 33, 46, 53, 255, 256, 46 + 256, math.MaxInt} {
		checkSeal(t, withNext(head, next), 33, sample(9, ofInner), 1)
		checkSplit(t, withNext(head, next), 33, sample(9, ofInner), 1, 4)
	}
}

// wrongHeaders are headers that header.Check refuses, by its errors.
func wrongHeaders() map[api.Errno][]api.Header {
	with := func(change func(h *api.Header)) api.Header {
		h := head
		change(&h)
		return h
	}
	return map[api.Errno][]api.Header{
		api.ErrSpi: {
			{}, {Responder: 1, Exchange: 37}, {Initiator: 1, Exchange: 35}, {Initiator: 1, Exchange: 36}, {Initiator: 1, Exchange: 37},
			with(func(h *api.Header) { h.Initiator = 0 }), with(func(h *api.Header) { h.Responder = 0 }),
		},
		api.ErrRange: {
			with(func(h *api.Header) { h.Exchange = 33 }), with(func(h *api.Header) { h.Exchange = 38 }),
			with(func(h *api.Header) { h.Exchange = 36 + 256 }), with(func(h *api.Header) { h.Exchange = math.MinInt }),
			with(func(h *api.Header) { h.Flags = 1 }), with(func(h *api.Header) { h.Flags = 64 }),
			with(func(h *api.Header) { h.Flags = 256 }), with(func(h *api.Header) { h.Flags = -1 }),
		},
		api.ErrOrder: {with(func(h *api.Header) { h.Exchange = 34 })},
	}
}

var wrongTypes = []int{math.MinInt, -256, -223, -1, 256, 256 + 33, 1<<32 + 33, math.MaxInt}

var wrongKeys = [][]byte{nil, {}, sample(1, ofKey), sample(32, ofKey), sample(35, ofKey), sample(37, ofKey), sample(72, ofKey), sample(36+256, ofKey)}

// P17.2: each error, and that it comes ahead of all those behind it.
func TestSealErrors(t *testing.T) {
	long := make([]byte, api.MaxMessage-56)
	for _, inner := range [][]byte{long, make([]byte, 1<<16-57), make([]byte, 1<<16), make([]byte, 1<<17)} {
		checkSealError(t, head, 33, inner, key, api.ErrTooLong)
		checkSealError(t, withNext(head, -1), 0, inner, key, api.ErrTooLong)
	}
	for _, first := range wrongTypes {
		checkSealError(t, head, first, nil, key, api.ErrRange)
		checkSealError(t, head, first, long, key, api.ErrRange)
	}
	for want, l := range wrongHeaders() {
		for _, h := range l {
			for _, first := range append(slices.Clone(wrongTypes), 33) {
				checkSealError(t, h, first, nil, key, want)
				checkSealError(t, h, first, long, key, want)
			}
		}
	}
	for _, k := range wrongKeys {
		checkSealError(t, head, 33, nil, k, api.ErrKey)
		checkSealError(t, head, -1, nil, k, api.ErrKey)
		checkSealError(t, api.Header{}, 33, nil, k, api.ErrKey)
		checkSealError(t, head, 33, long, k, api.ErrKey)
		checkSealError(t, api.Header{}, -1, long, k, api.ErrKey)
	}
}

// P17.2: all lengths of keys; spare capacity does not count.
func TestKeyLengths(t *testing.T) {
	b, p := whole(1, 2, 3, 0).bytes(), part(1, 1, 1, 2, 3, 0).bytes()
	for n := range 120 {
		if n == 36 {
			continue
		}
		for _, k := range [][]byte{sample(n, ofKey), spare(sample(n, ofKey)), sample(120, ofKey)[:n]} {
			checkSealError(t, head, 33, nil, k, api.ErrKey)
			checkSplitError(t, head, 33, nil, k, 1, api.ErrKey)
			checkOpenError(t, "key", b, k, api.ErrKey)
			checkPartError(t, "key", p, k, api.ErrKey)
		}
	}
}

// P17.1, P17.3: the lower version, other flags, and bits of the payload do not count, but are authenticated as they are.
func TestOpenBitsThatDoNotCount(t *testing.T) {
	for bits := range 256 {
		f := whole(1, 2, 3, 0)
		f.bits = byte(bits)
		checkOpen(t, "bits of the payload", f.bytes(), f.header, 33, []byte{1, 2, 3})
		f = whole(1, 2, 3, 0)
		f.header.Flags, f.flags = bits&56, byte(bits)
		checkOpen(t, "flags", f.bytes(), f.header, 33, []byte{1, 2, 3})
		p := part(2, 3, 1, 2, 3, 0)
		p.bits, p.header.Flags, p.flags = byte(bits), bits&56, byte(bits)
		checkPart(t, "bits of a part", p.bytes(), p.header, api.Fragment{Number: 2, Total: 3, Data: []byte{1, 2, 3}})
	}
	for minor := range byte(16) {
		f, p := whole(1, 2, 3, 0), part(1, 3, 1, 2, 3, 0)
		f.version, p.version = 32+minor, 32+minor
		checkOpen(t, "version", f.bytes(), f.header, 33, []byte{1, 2, 3})
		checkPart(t, "version", p.bytes(), p.header, api.Fragment{Number: 1, Total: 3, First: 33, Data: []byte{1, 2, 3}})
	}
}

// P17.3: a message that is longer than what Seal makes is opened all the same.
func TestOpenLong(t *testing.T) {
	for _, n := range []int{api.MaxMessage, 65535 - 4 - 8 - 1 - 16} {
		f := whole(padded(sample(n, ofInner))...)
		checkOpen(t, "long", f.bytes(), f.header, 33, sample(n, ofInner))
	}
	tooLong := whole(padded(sample(65535-4-8-16, ofInner))...)
	checkOpenError(t, "too long for two bytes", tooLong.bytes(), key, api.ErrLength)
}

// P17.3, P17.5: the last plain byte says how many bytes ahead of it do not count, whatever they are.
func TestPadding(t *testing.T) {
	lengths := []int{100, 254, 255, 256, 257, 300}
	for n := range 20 {
		lengths = append(lengths, n)
	}
	for _, n := range lengths {
		plain := append(sample(n, ofInner), 0)
		for pad := range 256 {
			plain[n] = byte(pad)
			f, p := whole(plain...), part(1, 2, plain...)
			if pad > n {
				checkOpenError(t, "padding", f.bytes(), key, api.ErrSyntax)
				checkPartError(t, "padding", p.bytes(), key, api.ErrSyntax)
				continue
			}
			checkOpen(t, "padding", f.bytes(), f.header, 33, plain[:n-pad])
			checkPart(t, "padding", p.bytes(), p.header, api.Fragment{Number: 1, Total: 2, First: 33, Data: plain[:n-pad]})
		}
	}
}

// P17.3: each error.
func TestOpenErrors(t *testing.T) {
	good := whole(1, 2, 3, 0).bytes()
	for n := range good {
		if n < 28 {
			checkOpenError(t, "cut in the header", good[:n], key, api.ErrShort)
		} else {
			checkOpenError(t, "cut", good[:n], key, api.ErrLength)
		}
	}
	checkOpenError(t, "nil", nil, key, api.ErrShort)
	checkOpenError(t, "version 1", changed(good, 17, 48), key, api.ErrVersion)
	checkOpenError(t, "no SPI", append(make([]byte, 8), good[8:]...), key, api.ErrSpi)
	checkOpenError(t, "exchange 33", changed(good, 18, 36^33), key, api.ErrRange)
	checkOpenError(t, "first exchange with an ID", changed(good, 18, 36^34), key, api.ErrOrder)
	for next := range 256 {
		f := whole(1, 2, 3, 0)
		f.header.Next = next
		if next != 46 {
			checkOpenError(t, "another type", f.bytes(), key, api.ErrOrder)
			checkOpenError(t, "another type and no payload", shorter(f.bytes(), 28), key, api.ErrOrder)
		}
	}
	checkOpenError(t, "no payload", shorter(good, 28), key, api.ErrShort)
	checkOpenError(t, "3 bytes of a payload", shorter(good, 31), key, api.ErrShort)
	checkOpenError(t, "head of a payload", shorter(good, 32), key, api.ErrLength)
	checkOpenError(t, "one byte behind it", longer(good, 0), key, api.ErrLength)
	checkOpenError(t, "a payload behind it", longer(good, 0, 0, 0, 4), key, api.ErrLength)
	for length := range len(good) {
		if length != len(good)-28 {
			checkOpenError(t, "length of the payload", changed(changed(good, 30, 0), 31, byte(length^(len(good)-28))), key, api.ErrLength)
		}
	}
}

// P17.3: a payload that is not alone is never read, wherever it stands.
func TestOpenTwoPayloads(t *testing.T) {
	good := whole(1, 2, 3, 0)
	inner := good.bytes()[28:]
	nonce := append([]byte{46, 0, 0, 20}, sample(16, ofOther)...)
	b := setLength(slices.Concat(changed(good.bytes()[:28], 16, 46^40), nonce, inner))
	checkOpenError(t, "behind a nonce", b, key, api.ErrOrder)
	checkOpenError(t, "twice", longer(good.bytes(), inner...), key, api.ErrLength)
}

// P17.3, P17.5: bodies that are too short for an initial value, padding and a tag.
func TestShortBodies(t *testing.T) {
	for n := range 40 {
		f, p := whole(), part(1, 1)
		b := append(f.bytes()[:28], byte(33), 0, 0, byte(n+4))
		b = setLength(append(b, make([]byte, n)...))
		want := api.ErrTag
		if n < 25 {
			want = api.ErrShort
		}
		checkOpenError(t, "body", b, key, want)
		checkOpenError(t, "body, and the length is wrong", longer(b, 0), key, api.ErrLength)
		b = append(p.bytes()[:28], byte(33), 0, 0, byte(n+4))
		b = setLength(append(b, append([]byte{0, 1, 0, 1}, make([]byte, 40)...)[:n]...))
		want = api.ErrTag
		if n < 29 {
			want = api.ErrShort
		}
		checkPartError(t, "body", b, key, want)
	}
	// The tag of no plain bytes is right, and they are too few all the same.
	checkOpenError(t, "no plain bytes", whole().bytes(), key, api.ErrShort)
	checkPartError(t, "no plain bytes", part(1, 1).bytes(), key, api.ErrShort)
	checkPartError(t, "no plain bytes, and no part", part(0, 0).bytes(), key, api.ErrShort)
}

// P17.3: an error comes ahead of all those behind it.
func TestOpenErrorOrder(t *testing.T) {
	syntax := whole(1, 2, 3, 4).bytes()
	checkOpenError(t, "syntax", syntax, key, api.ErrSyntax)
	tag := changed(syntax, len(syntax)-1, 1)
	checkOpenError(t, "tag ahead of syntax", tag, key, api.ErrTag)
	short := setLength(slices.Concat(syntax[:30], []byte{0, 28}, make([]byte, 24)))
	checkOpenError(t, "short ahead of tag", short, key, api.ErrShort)
	length := longer(short, 0)
	checkOpenError(t, "length ahead of short", length, key, api.ErrLength)
	next := changed(length, 16, 46^53)
	checkOpenError(t, "type ahead of length", next, key, api.ErrOrder)
	spi := append(make([]byte, 8), next[8:]...)
	checkOpenError(t, "header ahead of type", spi, key, api.ErrSpi)
	for _, b := range [][]byte{nil, syntax, tag, short, length, next, spi} {
		for _, k := range wrongKeys {
			checkOpenError(t, "key ahead of all", b, k, api.ErrKey)
		}
	}
}

// P17.7, P17.1: each bit of a message and of the key counts. Those that the tag alone guards are ErrTag.
func TestChangedBits(t *testing.T) {
	for _, n := range []int{0, 3, 70} {
		b := whole(padded(sample(n, ofInner))...).bytes()
		for bit := range 8 * len(b) {
			other := changed(b, bit/8, 1<<(bit%8))
			want := api.ErrTag
			if at := bit / 8; at < 32 {
				want = guarded(other, b)
			}
			checkOpenError(t, "bit", other, key, want)
		}
		for bit := range 8 * len(key) {
			checkOpenError(t, "key", b, changed(key, bit/8, 1<<(bit%8)), api.ErrTag)
		}
		p := part(2, 3, padded(sample(n, ofInner))...).bytes()
		for bit := range 8 * len(p) {
			other := changed(p, bit/8, 1<<(bit%8))
			want := api.ErrTag
			if at := bit / 8; at < 36 {
				want = guarded(other, p)
			}
			checkPartError(t, "bit", other, key, want)
		}
		for bit := range 8 * len(key) {
			checkPartError(t, "key", p, changed(key, bit/8, 1<<(bit%8)), api.ErrTag)
		}
	}
}

// guarded returns the error of a message whose head differs from the right one.
func guarded(b, right []byte) api.Errno {
	h, e := header.Parse(b)
	number, total := 0, 0
	if right[16] == api.PayloadFragment {
		number, total = int(b[32])<<8|int(b[33]), int(b[34])<<8|int(b[35])
	}
	switch {
	case e != api.OK:
		return e
	case h.Next != int(right[16]):
		return api.ErrOrder
	case b[30] != right[30] || b[31] != right[31]:
		return api.ErrLength
	case right[16] == api.PayloadFragment && (number < 1 || number > total || total > 16):
		return api.ErrRange
	}
	return api.ErrTag
}

// P17.7: two changes of a tag do not make up for each other.
func TestChangedTags(t *testing.T) {
	b := whole(1, 2, 3, 0).bytes()
	for i := len(b) - 16; i < len(b); i++ {
		for k := i + 1; k < len(b); k++ {
			for _, mask := range []byte{1, 128, 255} {
				checkOpenError(t, "two bytes", changed(changed(b, i, mask), k, mask), key, api.ErrTag)
			}
		}
	}
}

// P17.1: two messages that differ in what is authenticated are not each other's, so that the tag of one does not fit the other.
func TestOtherMessages(t *testing.T) {
	plain := padded(sample(20, ofInner))
	p1, p2, all := part(1, 2, plain...).bytes(), part(2, 2, plain...).bytes(), whole(plain...).bytes()
	mixed := append(bytes.Clone(p1[:36]), p2[36:]...)
	checkPartError(t, "the head of another part", mixed, key, api.ErrTag)
	// A part as a message: its numbers would be the beginning of the initial value.
	checkOpenError(t, "a part with the type of a message", changed(p1, 16, 53^46), key, api.ErrTag)
	checkPartError(t, "a message with the type of a part", changed(all, 16, 53^46), key, api.ErrRange)
	checkOpenError(t, "a part", p1, key, api.ErrOrder)
	checkPartError(t, "a message", all, key, api.ErrOrder)
}

// R1: no bytes make a function panic.
func TestAnyBytes(t *testing.T) {
	for _, right := range [][]byte{whole(1, 2, 3, 0).bytes(), part(1, 1, 1, 2, 3, 0).bytes()} {
		for n := range len(right) + 1 {
			for value := range 256 {
				b := append(bytes.Clone(right[:n]), bytes.Repeat([]byte{byte(value)}, len(right)-n)...)
				if n < len(right) && !bytes.Equal(b, right) {
					if _, _, _, e := Open(b, key); e == api.OK {
						t.Errorf("Open(%x) is accepted", b)
					}
					if _, _, e := OpenPart(b, key); e == api.OK {
						t.Errorf("OpenPart(%x) is accepted", b)
					}
				}
			}
		}
	}
}

// R2: arguments and their spare capacity stay as they are, whatever is done with the results.
func TestArgumentsStay(t *testing.T) {
	for n := range 70 {
		inner, k := spare(sample(n, ofInner)), spare(key)
		b, _ := Seal(head, 33, inner, k, 1)
		parts, _ := Split(head, 33, inner, k, 1, 10)
		full := spare(whole(padded(sample(n, ofInner))...).bytes())
		_, _, out, _ := Open(full, k)
		piece := spare(part(1, 1, padded(sample(n, ofInner))...).bytes())
		_, f, _ := OpenPart(piece, k)
		if !bytes.Equal(out, sample(n, ofInner)) || !bytes.Equal(f.Data, sample(n, ofInner)) {
			t.Errorf("Open and OpenPart of %d bytes = %x, %x", n, out, f.Data)
		}
		for _, result := range append(parts, b, out, f.Data) {
			clear(result[:cap(result)])
		}
		checkSpare(t, "inner", inner, sample(n, ofInner))
		checkSpare(t, "key", k, key)
		checkSpare(t, "message", full, whole(padded(sample(n, ofInner))...).bytes())
		checkSpare(t, "part", piece, part(1, 1, padded(sample(n, ofInner))...).bytes())
	}
	// A refused message stays too.
	full := spare(changed(whole(1, 2, 3, 0).bytes(), 50, 1))
	kept := bytes.Clone(full)
	checkOpenError(t, "refused", full, key, api.ErrTag)
	checkSpare(t, "refused", full, kept)
	// So do arguments that share memory.
	b := spare(sample(60, ofKey))
	if out, e := Seal(head, 33, b[:40], b[:36], 1); e != api.OK || !bytes.Equal(out, whole1(sample(60, ofKey)[:40])) {
		t.Errorf("Seal of bytes with their key = %x, %d", out, e)
	}
	checkSpare(t, "shared", b, sample(60, ofKey))
}

// whole1 returns a message of inner bytes with the initial value 1.
func whole1(inner []byte) []byte {
	f := whole(padded(inner)...)
	f.iv = 1
	return f.bytes()
}

// R2: who changes a result changes no later one.
func TestResultsAreNew(t *testing.T) {
	for range 3 {
		checkSeal(t, head, 33, sample(50, ofInner), 7)
		checkSplit(t, head, 33, sample(50, ofInner), 7, 20)
		b, _ := Seal(head, 33, sample(50, ofInner), key, 7)
		parts, _ := Split(head, 33, sample(50, ofInner), key, 7, 20)
		_, _, out, _ := Open(b, key)
		for _, result := range append(parts, b, out) {
			clear(result[:cap(result)])
		}
	}
}
