package proposal

import (
	"bytes"
	"math"
	"math/rand"
	"slices"
	"testing"

	"ipsecgate/api"
	"ipsecgate/wire"
)

// unhex returns the bytes of texts that are written by hand.
func unhex(texts ...string) []byte {
	var out []byte
	for _, s := range texts {
		b, e := wire.Unhex(s)
		if e != api.OK {
			panic(s)
		}
		out = append(out, b...)
	}
	return out
}

// same reports whether two lists have the same proposals; a nil SPI is an empty one.
func same(a, b []api.Proposal) bool {
	return slices.EqualFunc(a, b, func(p, q api.Proposal) bool {
		return p.Number == q.Number && p.Protocol == q.Protocol && bytes.Equal(p.Spi, q.Spi) && slices.Equal(p.Transforms, q.Transforms)
	})
}

func checkParse(t *testing.T, b []byte, want []api.Proposal) {
	t.Helper()
	if l, e := Parse(b); !same(l, want) || e != api.OK {
		t.Errorf("Parse(%.80x) = %v, %d, want %v", b, l, e, want)
	}
}

func checkParseError(t *testing.T, b []byte, want api.Errno) {
	t.Helper()
	if l, e := Parse(b); len(l) != 0 || e != want {
		t.Errorf("Parse(%.80x) = %d proposals, %d, want the error %d", b, len(l), e, want)
	}
}

func checkBuild(t *testing.T, l []api.Proposal, want []byte) {
	t.Helper()
	if e := Check(l); e != api.OK {
		t.Errorf("Check(%.200v) = %d", l, e)
	}
	if b, e := Build(l); !bytes.Equal(b, want) || e != api.OK {
		t.Errorf("Build(%.200v) = %x, %d, want %x", l, b, e, want)
	}
}

// checkError fails unless both Check and Build return the error.
func checkError(t *testing.T, l []api.Proposal, want api.Errno) {
	t.Helper()
	if e := Check(l); e != want {
		t.Errorf("Check(%.200v) = %d, want %d", l, e, want)
	}
	if b, e := Build(l); len(b) != 0 || e != want {
		t.Errorf("Build(%.200v) = %d bytes, %d, want the error %d", l, len(b), e, want)
	}
}

// checkFine fails unless the proposals are right, and are read again as they are.
func checkFine(t *testing.T, l []api.Proposal) {
	t.Helper()
	if e := Check(l); e != api.OK {
		t.Errorf("Check(%.200v) = %d", l, e)
	}
	b, e := Build(l)
	if e != api.OK {
		t.Errorf("Build(%.200v) = %d", l, e)
	}
	checkParse(t, b, l)
}

// esp returns a list of one proposal for ESP.
func esp(l ...api.Transform) []api.Proposal {
	return []api.Proposal{{Number: 1, Protocol: api.ProtoESP, Spi: []byte{1, 2, 3, 4}, Transforms: l}}
}

// choices returns n transforms, which differ in their IDs.
func choices(n int) []api.Transform {
	l := make([]api.Transform, n)
	for i := range l {
		l[i] = api.Transform{Type: api.Cipher, ID: i}
	}
	return l
}

// proposals returns n proposals with one transform each.
func proposals(n int) []api.Proposal {
	l := make([]api.Proposal, n)
	for i := range l {
		l[i] = api.Proposal{Number: i + 1, Protocol: api.ProtoIKE, Transforms: choices(1)}
	}
	return l
}

// wrapped returns the bytes of one proposal for ESP with that number of transforms, whatever stands in it.
func wrapped(count byte, transforms ...[]byte) []byte {
	inside := append([]byte{1, api.ProtoESP, 4, count, 1, 2, 3, 4}, bytes.Join(transforms, nil)...)
	return append(wire.Put([]byte{0, 0}, uint64(4+len(inside)), 2), inside...)
}

var (
	single       = unhex("00000014", "01030401", "01020304", "00000008", "0100001c")
	singleParsed = esp(api.Transform{Type: api.Cipher, ID: 28})
)

// three consists of three proposals, with all that P4.1 mentions; no byte that does not count is 0.
var three = unhex(
	"02ff002c", "01010803", "a1a2a3a4a5a6a7a8",
	"0381000c", "01820014", "800e0100",
	"03830008", "02841234",
	"00850008", "04868765",
	"02870014", "02020401", "b1b2b3b4", "00880008", "03890000",
	"008a001c", "03030402", "c1c2c3c4",
	"038b0008", "01010017",
	"008c0008", "058dffff",
)

var threeParsed = []api.Proposal{
	{Number: 1, Protocol: api.ProtoIKE, Spi: unhex("a1a2a3a4a5a6a7a8"), Transforms: []api.Transform{{Type: 1, ID: 20, Key: 256}, {Type: 2, ID: 0x1234}, {Type: 4, ID: 0x8765}}},
	{Number: 2, Protocol: api.ProtoAH, Spi: unhex("b1b2b3b4"), Transforms: []api.Transform{{Type: 3}}},
	{Number: 3, Protocol: api.ProtoESP, Spi: unhex("c1c2c3c4"), Transforms: []api.Transform{{Type: 1, ID: 0x17}, {Type: 5, ID: 65535}}},
}

// P4.1, P4.2
func TestParse(t *testing.T) {
	checkParse(t, single, singleParsed)
	checkParse(t, three, threeParsed)
	checkParse(t, unhex("00000010", "01010001", "00000008", "02000005"), []api.Proposal{{Number: 1, Protocol: api.ProtoIKE, Transforms: []api.Transform{{Type: 2, ID: 5}}}})
}

// P4.1, P4.2, P4.3: what each value of each byte of a body changes.
func TestParseEachByte(t *testing.T) {
	for at := range single {
		for v := range 256 {
			b := bytes.Clone(single)
			b[at] = byte(v)
			e, l := singleWith(at, v)
			if e != api.OK {
				checkParseError(t, b, e)
			} else {
				checkParse(t, b, l)
			}
		}
	}
}

// singleWith returns what is read from single with another value of one byte.
func singleWith(at, v int) (api.Errno, []api.Proposal) {
	l := esp(api.Transform{Type: api.Cipher, ID: 28})
	p := &l[0]
	if at == 1 || at == 13 || at == 17 || v == int(single[at]) {
		return api.OK, l
	}
	switch at {
	case 4:
		return api.ErrOrder, nil
	case 5:
		if v == api.ProtoIKE {
			return api.ErrSpi, nil
		}
		if v != api.ProtoAH {
			return api.ErrRange, nil
		}
		p.Protocol = v
	case 8, 9, 10, 11:
		p.Spi[at-8] = byte(v)
	case 16:
		if v < 1 || v > 5 {
			return api.ErrRange, nil
		}
		p.Transforms[0].Type = v
	case 18:
		p.Transforms[0].ID = 256*v + 28
	case 19:
		p.Transforms[0].ID = v
	default:
		return api.ErrSyntax, nil
	}
	return api.OK, l
}

// P4.1, P4.2: each first byte has one right value.
func TestParseFirstBytes(t *testing.T) {
	for at, want := range map[int]byte{0: 2, 16: 3, 28: 3, 36: 0, 44: 2, 56: 0, 64: 0, 76: 3, 84: 0} {
		for v := range 256 {
			b := bytes.Clone(three)
			b[at] = byte(v)
			if byte(v) == want {
				checkParse(t, b, threeParsed)
			} else {
				checkParseError(t, b, api.ErrSyntax)
			}
		}
	}
}

// P4.1, P4.2: each length, and each number of transforms, has one right value.
func TestParseLengths(t *testing.T) {
	for _, at := range []int{2, 18, 30, 38, 46, 58, 66, 78, 86} {
		right, _ := wire.Number(three, at, 2)
		for v := range uint64(65536) {
			b := bytes.Clone(three)
			copy(b[at:], wire.Put(nil, v, 2))
			if v == right {
				checkParse(t, b, threeParsed)
			} else {
				checkParseError(t, b, api.ErrSyntax)
			}
		}
	}
	for _, at := range []int{6, 7, 50, 51, 70, 71} {
		for v := range 256 {
			b := bytes.Clone(three)
			b[at] = byte(v)
			if b[at] == three[at] {
				checkParse(t, b, threeParsed)
			} else {
				checkParseError(t, b, api.ErrSyntax)
			}
		}
	}
}

// P4.2: a body that ends too early, or too late.
func TestParseOtherEnds(t *testing.T) {
	checkParseError(t, nil, api.ErrShort)
	checkParseError(t, []byte{}, api.ErrShort)
	for _, whole := range [][]byte{single, three} {
		for n := 1; n < len(whole); n++ {
			checkParseError(t, whole[:n:n], api.ErrSyntax)
			checkParseError(t, whole[:n], api.ErrSyntax)
		}
		for n := 1; n < 16; n++ {
			checkParseError(t, append(bytes.Clone(whole), make([]byte, n)...), api.ErrSyntax)
		}
		checkParseError(t, append(bytes.Clone(whole), whole...), api.ErrSyntax)
	}
}

// P4.2: a proposal whose length is right for the body, but not for what it has inside.
func TestParseInsides(t *testing.T) {
	fine := unhex("00000008", "01000001")
	checkParse(t, wrapped(1, fine), esp(api.Transform{Type: 1, ID: 1}))
	for _, b := range [][]byte{
		wrapped(0, fine),
		wrapped(1),
		wrapped(2, fine),
		wrapped(1, fine, fine),
		wrapped(2, fine, fine),
		wrapped(1, unhex("03000008", "01000001")),
		wrapped(1, unhex("02000008", "01000001")),
		wrapped(2, unhex("03000008", "01000001"), unhex("03000008", "01000002")),
		wrapped(2, unhex("02000008", "01000001"), fine),
		wrapped(1, fine, []byte{0}),
		wrapped(1, fine, []byte{0, 0, 0, 0}),
		wrapped(2, unhex("03000008", "01000001"), unhex("00000004")),
		wrapped(2, unhex("03000008", "01000001"), unhex("00000007", "010000")),
		wrapped(2, unhex("03000000"), fine),
		wrapped(2, unhex("03000003"), fine),
		unhex("00000004"),
		unhex("00000007", "010100"),
		unhex("00000000"),
		unhex("0000000c", "01010400", "01020304", "00"),
		// A length that leads into the next proposal, and an SPI that would.
		unhex("02000010", "01010001", "0000001c", "02000005", "0000000c", "02010400", "01020304"),
		unhex("02000008", "01010800", "00000010", "02010001", "00000008", "02000005"),
		unhex("02000008", "01010001", "00000008", "02000005"),
	} {
		checkParseError(t, b, api.ErrSyntax)
	}
}

// P4.1, P4.2: the only attribute is the key length, once, and not 0.
func TestParseAttributes(t *testing.T) {
	for _, key := range []int{1, 128, 255, 256, 0x1234, 32768, 65535} {
		b := wrapped(1, unhex("0000000c", "01000014", "800e"), wire.Put(nil, uint64(key), 2))
		checkParse(t, b, esp(api.Transform{Type: 1, ID: 20, Key: key}))
	}
	for kind := range uint64(65536) {
		if kind != 0x800e {
			checkParseError(t, wrapped(1, unhex("0000000c", "01000014"), wire.Put(nil, kind, 2), unhex("0100")), api.ErrSyntax)
		}
	}
	for _, text := range []string{
		"800e0000",
		"800e", "80", "800e01", "800e010000", "800e01000000",
		"800e0100800e0100", "800e0100800e0080", "800e0100800e0000", "800e0000800e0100",
		"800e0100800f0100", "800f0100800e0100", "800e0100000e0000", "000e0000800e0100",
		"000e0000", "000e00020100", "800f0000", "000e800e", "00020000", "0002000401000000",
	} {
		a := unhex(text)
		checkParseError(t, wrapped(1, []byte{0, 0, 0, byte(8 + len(a)), 1, 0, 0, 20}, a), api.ErrSyntax)
	}
}

// P4.2: an error of the format, wherever it is, comes ahead of those of Check.
func TestParseSyntaxFirst(t *testing.T) {
	wrong := unhex("02000014", "07090401", "01020304", "00000008", "0900001c")
	checkParseError(t, append(bytes.Clone(wrong), single[:19]...), api.ErrSyntax)
	checkParseError(t, append(bytes.Clone(wrong), 0), api.ErrSyntax)
	checkParseError(t, append(bytes.Clone(wrong), wrapped(0, unhex("00000008", "01000001"))...), api.ErrSyntax)
	checkParseError(t, append(bytes.Clone(wrong), single...), api.ErrOrder)
	many := bytes.Repeat(wrong, api.MaxProposals)
	checkParseError(t, append(bytes.Clone(many), single[:19]...), api.ErrSyntax)
	checkParseError(t, append(bytes.Clone(many), single...), api.ErrTooMany)
}

// P4.2: behind the format, the errors of Check.
func TestParseChecks(t *testing.T) {
	fine := unhex("00000008", "02000005")
	for _, c := range []struct {
		b []byte
		e api.Errno
	}{
		{unhex("00000008", "01010000"), api.ErrMissing},
		{unhex("00000010", "01010800", "0102030405060708"), api.ErrMissing},
		{wrapped(0), api.ErrMissing},
		{append(unhex("00000010", "02010001"), fine...), api.ErrOrder},
		{append(unhex("00000010", "01030001"), fine...), api.ErrSpi},
		{append(unhex("00000014", "01010401", "01020304"), fine...), api.ErrSpi},
		{append(unhex("00000018", "01030801", "0102030405060708"), fine...), api.ErrSpi},
		{slices.Concat(unhex("0000010f", "0103ff01"), make([]byte, 255), fine), api.ErrSpi},
		{wrapped(1, unhex("00000008", "00000001")), api.ErrRange},
		{wrapped(1, unhex("00000008", "06000001")), api.ErrRange},
		{wrapped(2, unhex("03000008", "01000001"), unhex("00ff0008", "01ff0001")), api.ErrTwice},
		{wrapped(2, unhex("0300000c", "01000001", "800e0001"), unhex("0000000c", "01000001", "800e0001")), api.ErrTwice},
	} {
		checkParseError(t, c.b, c.e)
	}
}

// P4.2: bodies with many proposals or transforms are read to their ends before they are refused.
func TestParseMany(t *testing.T) {
	for _, n := range []int{2, api.MaxChoices, api.MaxChoices + 1, 255, 256, 257} {
		var l [][]byte
		for i := range choices(n) {
			l = append(l, []byte{3, 0, 0, 8, api.Cipher, 0, byte(i >> 8), byte(i)})
		}
		l[n-1][0] = 0
		switch b := wrapped(byte(n), l...); {
		case n > 255:
			checkParseError(t, b, api.ErrSyntax)
		case n > api.MaxChoices:
			checkParseError(t, b, api.ErrTooMany)
		default:
			checkParse(t, b, esp(choices(n)...))
		}
	}
	for _, n := range []int{2, api.MaxProposals, api.MaxProposals + 1, 255, 256, 257, 10000} {
		var b []byte
		for i := range n {
			b = append(b, 2, 0, 0, 16, byte(i+1), api.ProtoIKE, 0, 1, 0, 0, 0, 8, api.Cipher, 0, 0, 0)
		}
		checkParseError(t, b, api.ErrSyntax)
		b[16*(n-1)] = 0
		if n > api.MaxProposals {
			checkParseError(t, b, api.ErrTooMany)
		} else {
			checkParse(t, b, proposals(n))
		}
	}
}

// P4.3, P4.4
func TestCheckList(t *testing.T) {
	checkError(t, nil, api.ErrMissing)
	checkError(t, []api.Proposal{}, api.ErrMissing)
	for n := 1; n <= api.MaxProposals; n++ {
		checkFine(t, proposals(n))
	}
	for _, n := range []int{api.MaxProposals + 1, 2 * api.MaxProposals, 300} {
		checkError(t, proposals(n), api.ErrTooMany)
		checkError(t, make([]api.Proposal, n), api.ErrTooMany)
	}
}

// P4.3, P4.4
func TestCheckNumber(t *testing.T) {
	for _, number := range []int{0, 2, -1, 257, 1 << 32, 1<<32 + 1, math.MinInt, math.MaxInt} {
		l := esp(choices(1)...)
		l[0].Number = number
		checkError(t, l, api.ErrOrder)
	}
	for i := range api.MaxProposals {
		for _, number := range []int{0, i, i + 2, i + 257, -i - 1} {
			l := proposals(api.MaxProposals)
			l[i].Number = number
			checkError(t, l, api.ErrOrder)
		}
	}
}

// P4.3, P4.4
func TestCheckProtocol(t *testing.T) {
	for _, protocol := range []int{0, 4, -1, 255, 256, 257, 259, 1<<32 + 3, math.MinInt, math.MaxInt} {
		for _, n := range []int{0, 4, 8} {
			checkError(t, []api.Proposal{{Number: 1, Protocol: protocol, Spi: make([]byte, n), Transforms: choices(1)}}, api.ErrRange)
		}
	}
}

// P4.3, P4.4
func TestCheckSpi(t *testing.T) {
	for protocol, sizes := range map[int][]int{api.ProtoIKE: {0, 8}, api.ProtoAH: {4}, api.ProtoESP: {4}} {
		for n := range 300 {
			l := []api.Proposal{{Number: 1, Protocol: protocol, Spi: bytes.Repeat([]byte{0xe5}, n), Transforms: choices(1)}}
			if slices.Contains(sizes, n) {
				checkFine(t, l)
			} else {
				checkError(t, l, api.ErrSpi)
			}
		}
	}
	checkFine(t, []api.Proposal{{Number: 1, Protocol: api.ProtoIKE, Spi: []byte{}, Transforms: choices(1)}})
	checkFine(t, []api.Proposal{{Number: 1, Protocol: api.ProtoESP, Spi: make([]byte, 4), Transforms: choices(1)}})
}

// P4.3, P4.4
func TestCheckTransformCount(t *testing.T) {
	checkError(t, esp(), api.ErrMissing)
	checkError(t, esp([]api.Transform{}...), api.ErrMissing)
	for n := 1; n <= api.MaxChoices; n++ {
		checkFine(t, esp(choices(n)...))
	}
	for _, n := range []int{api.MaxChoices + 1, 255, 256, 257, 1000} {
		checkError(t, esp(choices(n)...), api.ErrTooMany)
		checkError(t, esp(make([]api.Transform, n)...), api.ErrTooMany)
	}
}

// P4.3, P4.4
func TestCheckTransformRange(t *testing.T) {
	for kind := 1; kind <= 5; kind++ {
		for _, v := range []int{0, 1, 255, 256, 32768, 65535} {
			checkFine(t, esp(api.Transform{Type: kind, ID: v}))
			checkFine(t, esp(api.Transform{Type: kind, Key: v}))
		}
	}
	for _, kind := range []int{0, 6, -1, 255, 256, 257, 1<<32 + 1, math.MinInt, math.MaxInt} {
		checkError(t, esp(api.Transform{Type: kind}), api.ErrRange)
		checkError(t, esp(api.Transform{Type: 1}, api.Transform{Type: kind}), api.ErrRange)
	}
	for _, v := range []int{-1, 65536, 65537, 1 << 32, math.MinInt, math.MaxInt} {
		checkError(t, esp(api.Transform{Type: 1, ID: v}), api.ErrRange)
		checkError(t, esp(api.Transform{Type: 1, Key: v}), api.ErrRange)
		checkError(t, esp(api.Transform{Type: 1}, api.Transform{Type: 1, ID: v}), api.ErrRange)
		checkError(t, esp(api.Transform{Type: 1}, api.Transform{Type: 1, Key: v}), api.ErrRange)
	}
}

// P4.3, P4.4: a transform is compared with all ahead of it in its proposal, and in all its numbers.
func TestCheckTwice(t *testing.T) {
	for n := 2; n <= api.MaxChoices; n++ {
		for i := range n - 1 {
			l := choices(n)
			l[n-1] = l[i]
			checkError(t, esp(l...), api.ErrTwice)
		}
	}
	one := api.Transform{Type: 1, ID: 2, Key: 3}
	checkError(t, esp(one, one), api.ErrTwice)
	checkFine(t, esp(one, api.Transform{Type: 2, ID: 2, Key: 3}, api.Transform{Type: 1, ID: 3, Key: 3}, api.Transform{Type: 1, ID: 2, Key: 2}, api.Transform{Type: 1, ID: 2}))
	both := proposals(2)
	both[1].Transforms = both[0].Transforms
	checkFine(t, both)
	both[1].Transforms = []api.Transform{one, one}
	checkError(t, both, api.ErrTwice)
}

// P4.3, R4: each proposal has all errors from some one on; the first one is returned.
func TestCheckOrder(t *testing.T) {
	bad := api.Transform{Type: 9}
	good := api.Transform{Type: 1}
	p := api.Proposal{Number: 9, Protocol: 9, Spi: make([]byte, 9)}
	checkError(t, []api.Proposal{p}, api.ErrOrder)
	p.Number = 1
	checkError(t, []api.Proposal{p}, api.ErrRange)
	p.Protocol = api.ProtoESP
	checkError(t, []api.Proposal{p}, api.ErrSpi)
	p.Transforms = make([]api.Transform, api.MaxChoices+1)
	checkError(t, []api.Proposal{p}, api.ErrSpi)
	p.Spi = make([]byte, 4)
	checkError(t, []api.Proposal{p}, api.ErrTooMany)
	checkError(t, esp(good, good, bad), api.ErrTwice)
	checkError(t, esp(good, bad, good), api.ErrRange)
	checkError(t, esp(bad, bad), api.ErrRange)
}

// P4.3, R4: any error of a proposal comes ahead of those of the next one.
func TestCheckOrderOfProposals(t *testing.T) {
	last := []func(p *api.Proposal){
		func(p *api.Proposal) { p.Number = 0 },
		func(p *api.Proposal) { p.Protocol = 0 },
		func(p *api.Proposal) { p.Spi = make([]byte, 5) },
		func(p *api.Proposal) { p.Transforms = nil },
		func(p *api.Proposal) { p.Transforms = choices(api.MaxChoices + 1) },
		func(p *api.Proposal) { p.Transforms = []api.Transform{{}} },
		func(p *api.Proposal) { p.Transforms = append(choices(2), choices(2)...) },
	}
	want := []api.Errno{api.ErrOrder, api.ErrRange, api.ErrSpi, api.ErrMissing, api.ErrTooMany, api.ErrRange, api.ErrTwice}
	for i, first := range last {
		for _, second := range last {
			l := proposals(3)
			first(&l[1])
			checkError(t, l, want[i])
			second(&l[2])
			checkError(t, l, want[i])
		}
	}
}

// P4.1, P4.4
func TestBuild(t *testing.T) {
	checkBuild(t, singleParsed, single)
	checkBuild(t, threeParsed, plain(three))
	checkBuild(t, esp(api.Transform{Type: 1, ID: 0x1234, Key: 0x5678}, api.Transform{Type: 5}),
		unhex("00000020", "01030402", "01020304", "0300000c", "01001234", "800e5678", "00000008", "05000000"))
	// A length of more than 255.
	long := []byte{0, 0, 1, 44, 1, 3, 4, api.MaxChoices, 1, 2, 3, 4}
	l := choices(api.MaxChoices)
	for i := range l {
		l[i].Key = 65535
		long = append(long, 3, 0, 0, 12, api.Cipher, 0, 0, byte(i), 0x80, 0x0e, 255, 255)
	}
	long[len(long)-12] = 0
	checkBuild(t, esp(l...), long)
}

// plain returns the bytes of right proposals with 0 for what does not count. It walks from length to length.
func plain(b []byte) []byte {
	out := bytes.Clone(b)
	for at := 0; at < len(out); {
		out[at+1] = 0
		end := at + int(out[at+2])<<8 + int(out[at+3])
		at += 8 + int(out[at+6])
		for at < end {
			out[at+1], out[at+5] = 0, 0
			at += int(out[at+3])
		}
	}
	return out
}

// anyList returns proposals for which Check is OK.
func anyList(r *rand.Rand) []api.Proposal {
	l := proposals(1 + r.Intn(api.MaxProposals))
	for i := range l {
		p := &l[i]
		size := 4
		p.Protocol = 1 + r.Intn(3)
		if p.Protocol == api.ProtoIKE {
			size = 8 * r.Intn(2)
		}
		p.Spi = make([]byte, size)
		r.Read(p.Spi)
		p.Transforms = choices(1 + r.Intn(api.MaxChoices))
		for j := range p.Transforms {
			c := &p.Transforms[j]
			c.Type = 1 + r.Intn(5)
			c.ID += 24 * r.Intn(2700)
			c.Key = r.Intn(2) * r.Intn(65536)
		}
	}
	return l
}

// P4.5
func TestParseOfBuild(t *testing.T) {
	r := rand.New(rand.NewSource(4))
	for range 2000 {
		checkFine(t, anyList(r))
	}
}

// P4.5: bytes that are changed at a few places are either refused or built again.
func TestBuildOfParse(t *testing.T) {
	r := rand.New(rand.NewSource(5))
	accepted := 0
	for range 30000 {
		b, _ := Build(anyList(r))
		for range r.Intn(4) {
			b[r.Intn(len(b))] = byte(r.Intn(256))
		}
		l, e := Parse(b)
		if e != api.OK {
			if len(l) != 0 {
				t.Errorf("Parse(%x) = %v, %d", b, l, e)
			}
			continue
		}
		accepted++
		checkBuild(t, l, plain(b))
	}
	if accepted < 10000 {
		t.Errorf("only %d were accepted", accepted)
	}
}

// R1: Parse returns for any bytes; with few different bytes, some of them are proposals.
func TestParseAnything(t *testing.T) {
	r := rand.New(rand.NewSource(6))
	for range 200000 {
		b := make([]byte, r.Intn(40))
		for i := range b {
			b[i] = []byte{0, 0, 0, 1, 2, 3, 4, 8, 12, 16, 20, 14, 128, 255}[r.Intn(14)]
		}
		if l, e := Parse(b); e == api.OK {
			checkBuild(t, l, plain(b))
		} else if len(l) != 0 {
			t.Errorf("Parse(%x) = %v, %d", b, l, e)
		}
	}
}

// R2: arguments stay as they are, with their spare capacity, and share no memory with results.
func TestArgumentsStay(t *testing.T) {
	whole := append(bytes.Clone(three), bytes.Repeat([]byte{0xa5}, 16)...)
	kept := bytes.Clone(whole)
	l, _ := Parse(whole[:len(three)])
	for i := range l {
		clear(l[i].Spi)
		_ = append(l[i].Spi, 1, 2, 3)
		clear(l[i].Transforms)
	}
	if !bytes.Equal(whole, kept) {
		t.Errorf("the bytes became %x", whole)
	}
	spi := append(unhex("01020304"), 0xa5, 0xa5)
	transforms := append(choices(2), api.Transform{Type: 7})
	p := []api.Proposal{{Number: 1, Protocol: api.ProtoESP, Spi: spi[:4], Transforms: transforms[:2]}, {Number: 77}}
	Check(p[:1])
	b, _ := Build(p[:1])
	clear(b)
	if wire.Hex(spi) != "01020304a5a5" || !slices.Equal(transforms, append(choices(2), api.Transform{Type: 7})) || p[0].Number != 1 || p[1].Number != 77 {
		t.Errorf("the proposals became %v, %x, %v", p, spi, transforms)
	}
}
