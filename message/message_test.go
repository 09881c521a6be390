package message

import (
	"bytes"
	"math"
	"math/rand"
	"slices"
	"testing"

	"ipsecgate/api"
	"ipsecgate/payload"
	"ipsecgate/wire"
)

// unhex returns the bytes of texts that are written by hand.
func unhex(texts ...string) []byte {
	var out []byte
	for _, s := range texts {
		b, e := wire.Unhex(s)
		if e != api.OK {
			panic(s)
		}
		out = append(out, b...)
	}
	return out
}

const nonceHex = "5051525354555657" + "58595a5b5c5d5e5f"

// bodies are the bytes of sample, by the type.
var bodies = map[int]string{
	33: "00000010" + "01010001" + "00000008" + "0100001c",
	34: "001f0000" + "aabbcc",
	35: "02000000" + "6162",
	36: "03000000" + "614062",
	37: "0401",
	39: "02000000" + "0d0e0f",
	40: nonceHex,
	41: "00004004",
	42: "01000000",
	43: "76",
	44: "01000000" + "07000010" + "0000ffff" + "0a000000" + "0a0000ff",
	45: "01000000" + "07060010" + "0050005a" + "0b000000" + "0b0000ff",
	46: "29aabb",
	53: "0000010001cc",
}

// sample returns a payload of a type with all that is needed.
func sample(kind int) api.Payload {
	ip := func(n uint64) api.Address { return api.Address{Family: 4, Lo: n} }
	p := map[int]api.Payload{
		33: {Proposals: []api.Proposal{{Number: 1, Protocol: 1, Transforms: []api.Transform{{Type: 1, ID: 28}}}}},
		34: {Exchange: api.Exchange{Group: 31, Data: unhex("aabbcc")}},
		35: {Identity: api.Identity{Kind: 2, Data: []byte("ab")}},
		36: {Identity: api.Identity{Kind: 3, Data: []byte("a@b")}},
		37: {Data: unhex("0401")},
		39: {Auth: api.Auth{Method: 2, Data: unhex("0d0e0f")}},
		40: {Data: unhex(nonceHex)},
		41: {Notify: api.Notify{Type: 16388}},
		42: {Delete: api.Delete{Protocol: 1}},
		43: {Data: []byte("v")},
		44: {Selectors: []api.Selector{{PortHi: 65535, Lo: ip(0x0a000000), Hi: ip(0x0a0000ff)}}},
		45: {Selectors: []api.Selector{{Protocol: 6, PortLo: 80, PortHi: 90, Lo: ip(0x0b000000), Hi: ip(0x0b0000ff)}}},
		46: {Data: unhex("29aabb")},
		53: {Data: unhex("0000010001cc")},
	}[kind]
	p.Type = kind
	return p
}

func note(kind int) api.Payload { return api.Payload{Type: 41, Notify: api.Notify{Type: kind}} }

// list returns samples of types.
func list(kinds ...int) []api.Payload {
	var l []api.Payload
	for _, kind := range kinds {
		l = append(l, sample(kind))
	}
	return l
}

// vendors returns n payloads.
func vendors(n int) []api.Payload { return slices.Repeat(list(43), n) }

func head(exchange, flags int) api.Header {
	h := api.Header{Initiator: 0x8182838485868788, Exchange: exchange, Flags: flags}
	if exchange != api.ExchangeInit {
		h.Responder, h.ID = 0x9192939495969798, 0xa1a2a3a4
	}
	return h
}

func message(exchange, flags int, l ...api.Payload) api.Message {
	return api.Message{Header: head(exchange, flags), Payloads: l}
}

// completeLists have what an exchange needs.
var completeLists = []struct {
	exchange, flags int
	kinds           []int
}{
	{34, 8, []int{33, 34, 40}},
	{34, 32, []int{33, 34, 40}},
	{35, 8, []int{35, 39, 33, 44, 45}},
	{35, 32, []int{36, 39, 33, 44, 45}},
	{36, 8, []int{33, 40}},
	{36, 32, []int{33, 40}},
	{37, 8, nil},
	{37, 32, nil},
}

// same compares messages, the Next of their headers as well.
func same(a, b api.Message) bool {
	return a.Header == b.Header && slices.EqualFunc(a.Payloads, b.Payloads, payload.Same)
}

// part is a payload as bytes.
type part struct {
	kind int
	bits byte
	body []byte
}

// parts returns samples of types as bytes.
func parts(kinds ...int) []part {
	var l []part
	for _, kind := range kinds {
		l = append(l, part{kind, 0, unhex(bodies[kind])})
	}
	return l
}

func raw(kind int, hex string) part      { return part{kind, 0, unhex(hex)} }
func critical(kind int, hex string) part { return part{kind, 128, unhex(hex)} }

// chained returns the type of the first part, and the bytes of the chain.
func chained(l []part) (int, []byte) {
	var b []byte
	first, at := 0, -1 // where the type of the next part stands
	for _, x := range l {
		if at < 0 {
			first = x.kind
		} else {
			b[at] = byte(x.kind)
		}
		at = len(b)
		n := 4 + len(x.body)
		b = append(b, 0, x.bits, byte(n>>8), byte(n))
		b = append(b, x.body...)
	}
	return first, b
}

// whole returns a message with a header in front of the bytes.
func whole(h api.Header, b []byte) []byte {
	out := wire.Put(wire.Put(nil, h.Initiator, 8), h.Responder, 8)
	out = append(out, byte(h.Next), 0x20, byte(h.Exchange), byte(h.Flags))
	out = wire.Put(wire.Put(out, uint64(h.ID), 4), uint64(28+len(b)), 4)
	return append(out, b...)
}

// written returns a message of parts.
func written(exchange, flags int, l ...part) []byte {
	h := head(exchange, flags)
	first, b := chained(l)
	h.Next = first
	return whole(h, b)
}

func checkParse(t *testing.T, b []byte, want api.Message) {
	t.Helper()
	if m, e := Parse(b); !same(m, want) || e != api.OK {
		t.Errorf("Parse(%.120x) = %v, %d, want %v", b, m, e, want)
	}
}

func checkParseError(t *testing.T, b []byte, want api.Errno) {
	t.Helper()
	m, e := Parse(b)
	if !same(m, api.Message{}) || e != want {
		t.Errorf("Parse(%.120x) = %v, %d, want the error %d", b, m, e, want)
	}
	if _, ok := Reply(e); !ok {
		t.Errorf("the error %d of Parse has no Reply", e)
	}
}

func checkInside(t *testing.T, h api.Header, first int, b []byte, want ...api.Payload) {
	t.Helper()
	if m, e := Inside(h, first, b); !same(m, api.Message{Header: h, Payloads: want}) || e != api.OK {
		t.Errorf("Inside(%v, %d, %.120x) = %v, %d, want %v", h, first, b, m, e, want)
	}
}

func checkInsideError(t *testing.T, h api.Header, first int, b []byte, want api.Errno) {
	t.Helper()
	if m, e := Inside(h, first, b); !same(m, api.Message{}) || e != want {
		t.Errorf("Inside(%v, %d, %.120x) = %v, %d, want the error %d", h, first, b, m, e, want)
	}
}

func checkBuild(t *testing.T, m api.Message, want []byte) {
	t.Helper()
	if b, e := Build(m); !bytes.Equal(b, want) || e != api.OK {
		t.Errorf("Build(%v) = %.120x, %d, want %.120x", m.Header, b, e, want)
	}
}

func checkBuildError(t *testing.T, m api.Message, want api.Errno) {
	t.Helper()
	if b, e := Build(m); len(b) != 0 || e != want {
		t.Errorf("Build(%v, %d payloads) = %.120x, %d, want the error %d", m.Header, len(m.Payloads), b, e, want)
	}
}

func checkCheck(t *testing.T, m api.Message, want api.Errno) {
	t.Helper()
	if e := Check(m); e != want {
		t.Errorf("Check(%.300v) = %d, want %d", m, e, want)
	}
}

// P7.1, P7.4: a message that is written by hand.
func TestWhole(t *testing.T) {
	b := unhex(
		"8182838485868788"+"0000000000000000"+"21202208"+"00000000"+"00000057",
		"22000014"+"00000010"+"01010001"+"00000008"+"0100001c",
		"2800000b"+"001f0000"+"aabbcc",
		"29000014"+nonceHex,
		"00000008"+"00004004",
	)
	want := message(34, 8, list(33, 34, 40, 41)...)
	want.Header.Next = 33
	checkParse(t, b, want)
	checkBuild(t, want, b)
	// What does not count may have any value.
	loose := bytes.Clone(b)
	for at, bits := range map[int]byte{17: 0x0f, 19: 0xc7, 29: 0x7f, 33: 0xff, 41: 0x77, 45: 0x88, 49: 0x80, 54: 0x99, 55: 0xff, 60: 0xff} {
		loose[at] |= bits
	}
	checkParse(t, loose, want)
}

// P7.1, P7.4: all types of payloads in all exchanges; Next is the type of the first one.
func TestParse(t *testing.T) {
	for _, c := range completeLists {
		for _, more := range [][]int{{}, {41}, {37, 37, 41, 41, 42, 42, 43, 43}} {
			for _, kinds := range [][]int{slices.Concat(c.kinds, more), slices.Concat(more, c.kinds)} {
				want := message(c.exchange, c.flags, list(kinds...)...)
				if len(kinds) > 0 {
					want.Header.Next = kinds[0]
				}
				b := written(c.exchange, c.flags, parts(kinds...)...)
				checkParse(t, b, want)
				checkBuild(t, want, b)
			}
		}
	}
	for _, exchange := range []int{34, 35, 36, 37} {
		for _, flags := range []int{0, 8, 16, 24, 32, 40, 48, 56} {
			want := message(exchange, flags, list(43)...)
			want.Payloads = append(want.Payloads, note(14))
			want.Header.Next = 43
			checkParse(t, written(exchange, flags, raw(43, "76"), raw(41, "0000000e")), want)
		}
	}
}

// P7.1: what is sealed keeps its body; the type of the first payload inside is not part of it.
func TestParseSealed(t *testing.T) {
	for _, kind := range []int{46, 53} {
		for _, exchange := range []int{34, 35, 36, 37} {
			for _, body := range []string{"", "00", "29aabb"} {
				b := written(exchange, 8, raw(kind, body))
				b[28] = 0x21
				want := message(exchange, 8, api.Payload{Type: kind, Data: unhex(body)})
				want.Header.Next = kind
				checkParse(t, b, want)
			}
			// An unknown payload is left out, so that nothing stands beside it.
			want := message(exchange, 8, sample(kind))
			want.Header.Next = 99
			checkParse(t, written(exchange, 8, append([]part{raw(99, "01")}, parts(kind)...)...), want)
			checkParseError(t, written(exchange, 8, parts(41, kind)...), api.ErrOrder)
			checkParseError(t, written(exchange, 8, parts(kind, 41)...), api.ErrLength)
		}
	}
}

// P7.1: the greatest length comes ahead of everything.
func TestParseTooLong(t *testing.T) {
	for _, n := range []int{api.MaxMessage - 1, api.MaxMessage} {
		data := bytes.Repeat([]byte{0xb6}, n-32)
		want := message(37, 8, api.Payload{Type: 43, Data: data})
		want.Header.Next = 43
		checkParse(t, written(37, 8, part{43, 0, data}), want)
	}
	for _, n := range []int{api.MaxMessage + 1, api.MaxMessage + 2, 65535, 65536, 1 << 20} {
		checkParseError(t, make([]byte, n), api.ErrTooLong)
		checkParseError(t, bytes.Repeat([]byte{0xff}, n), api.ErrTooLong)
		if n < 65536 {
			checkParseError(t, written(37, 8, part{43, 0, make([]byte, n-32)}), api.ErrTooLong)
		}
	}
	checkParseError(t, make([]byte, api.MaxMessage), api.ErrVersion)
}

// P7.1: the errors of the header come ahead of those of the chain.
func TestParseHeader(t *testing.T) {
	good := written(35, 8, parts(35, 39, 33, 44, 45)...)
	for n := range good {
		want := api.ErrLength
		if n < 28 {
			want = api.ErrShort
		}
		checkParseError(t, good[:n], want)
		checkParseError(t, good[:n:n], want)
	}
	checkParseError(t, nil, api.ErrShort)
	checkParseError(t, append(bytes.Clone(good), 0), api.ErrLength)
	wrongChain := whole(head(35, 8), []byte{0})
	for _, b := range [][]byte{good, wrongChain} {
		for _, c := range []struct {
			at   int
			with []byte
			e    api.Errno
		}{
			{17, []byte{0x10}, api.ErrVersion}, {17, []byte{0x30}, api.ErrVersion}, {27, []byte{0}, api.ErrLength}, {24, []byte{1}, api.ErrLength},
			{0, make([]byte, 8), api.ErrSpi}, {8, make([]byte, 8), api.ErrSpi}, {18, []byte{33}, api.ErrRange}, {18, []byte{38}, api.ErrRange}, {18, []byte{34}, api.ErrOrder},
		} {
			wrong := bytes.Clone(b)
			copy(wrong[c.at:], c.with)
			checkParseError(t, wrong, c.e)
		}
	}
}

// P7.1: the errors of the chain come ahead of those of payloads and of Check.
func TestParseChain(t *testing.T) {
	for _, first := range []part{raw(43, "76"), raw(40, ""), critical(99, ""), raw(34, "")} {
		for _, c := range []struct {
			end []byte
			e   api.Errno
		}{
			{[]byte{0}, api.ErrShort}, {[]byte{0, 0, 0}, api.ErrShort}, {[]byte{0, 0, 0, 3}, api.ErrLength}, {[]byte{0, 0, 0, 5}, api.ErrLength},
			{[]byte{0, 0, 0, 4, 0}, api.ErrLength}, {[]byte{}, api.ErrShort},
		} {
			h := head(34, 8)
			kind, b := chained([]part{first, raw(40, "")})
			h.Next = kind
			checkParseError(t, whole(h, append(b[:len(b)-4], c.end...)), c.e)
			checkInsideError(t, h, kind, append(b[:len(b)-4], c.end...), c.e)
		}
		many := slices.Repeat([]part{first}, api.MaxPayloads+1)
		checkParseError(t, written(34, 8, many...), api.ErrTooMany)
		kind, b := chained(many)
		checkInsideError(t, head(34, 8), kind, b, api.ErrTooMany)
	}
	h := head(37, 0)
	checkParseError(t, whole(h, []byte{0}), api.ErrLength)
	want := message(37, 8, vendors(api.MaxPayloads)...)
	want.Header.Next = 43
	checkParse(t, written(37, 8, slices.Repeat(parts(43), api.MaxPayloads)...), want)
}

// P7.1, P7.2: every type of a payload that is not known.
func TestUnknown(t *testing.T) {
	for kind := 1; kind < 256; kind++ {
		if bodies[kind] != "" {
			continue
		}
		for _, text := range []string{"", "01", nonceHex} {
			for at := range 4 {
				l := slices.Insert(parts(33, 34, 40), at, raw(kind, text))
				want := message(34, 8, list(33, 34, 40)...)
				first, b := chained(l)
				checkInside(t, want.Header, first, b, want.Payloads...)
				want.Header.Next = first
				checkParse(t, written(34, 8, l...), want)
				l[at].bits = 127
				checkParse(t, written(34, 8, l...), want)
				for _, bits := range []byte{128, 255} {
					l[at].bits = bits
					first, b := chained(l)
					checkParseError(t, written(34, 8, l...), api.ErrCritical)
					checkInsideError(t, want.Header, first, b, api.ErrCritical)
				}
			}
		}
		// It counts for nothing.
		want := message(37, 32)
		want.Header.Next = kind
		checkParse(t, written(37, 32, raw(kind, ""), raw(kind, "")), want)
		checkParseError(t, written(36, 8, raw(kind, ""), raw(33, bodies[33])), api.ErrMissing)
	}
}

// P7.1, P7.2: payloads that are known may be critical.
func TestKnownCritical(t *testing.T) {
	for _, c := range completeLists {
		l := parts(append(c.kinds, 37, 41, 42, 43)...)
		for i := range l {
			l[i].bits = 0x80
		}
		want := message(c.exchange, c.flags, list(append(c.kinds, 37, 41, 42, 43)...)...)
		first, b := chained(l)
		checkInside(t, want.Header, first, b, want.Payloads...)
		want.Header.Next = first
		checkParse(t, written(c.exchange, c.flags, l...), want)
	}
}

// P7.1, P7.2: the first payload that is wrong counts, whatever is wrong with it, and comes ahead of Check.
func TestPayloadErrors(t *testing.T) {
	wrong := []struct {
		part
		e api.Errno
	}{
		{raw(33, ""), api.ErrShort}, {raw(33, "00000008"+"01010000"), api.ErrMissing}, {raw(33, "00000010"+"02010001"+"00000008"+"0100001c"), api.ErrOrder}, {raw(33, "01"), api.ErrSyntax},
		{raw(34, "001f00"), api.ErrShort}, {raw(34, "001f0000"), api.ErrKey}, {raw(35, "04000000"+"61"), api.ErrRange}, {raw(36, "01000000"+"61"), api.ErrLength},
		{raw(39, "02000000"), api.ErrLength}, {raw(39, "01000000"+"61"), api.ErrRange}, {raw(40, "00"), api.ErrKey}, {raw(41, "00"), api.ErrShort}, {raw(41, "04000000"), api.ErrRange}, {raw(41, "0104000e"), api.ErrSpi},
		{raw(41, "03000000"), api.ErrSpi}, {raw(42, "03040002"+"01020304"+"01020304"), api.ErrTwice}, {raw(44, "00000000"), api.ErrMissing}, {raw(45, "11000000"), api.ErrTooMany}, {raw(44, "01000000"), api.ErrSyntax},
		{critical(99, ""), api.ErrCritical}, {critical(99, "0102"), api.ErrCritical}, {raw(99, "0102"), api.OK}, {raw(43, ""), api.OK},
	}
	for _, c := range wrong {
		for _, d := range wrong {
			if c.e == api.OK && d.e == api.OK {
				continue
			}
			want := c.e
			if c.e == api.OK {
				want = d.e
			}
			for _, exchange := range []int{34, 37} {
				l := []part{raw(43, "76"), c.part, d.part, raw(40, nonceHex), raw(40, nonceHex)}
				first, b := chained(l)
				checkParseError(t, written(exchange, 8, l...), want)
				checkInsideError(t, head(exchange, 8), first, b, want)
			}
		}
	}
}

// P7.1, P7.2: behind all others, the error of Check.
func TestParseCheck(t *testing.T) {
	for _, c := range []struct {
		exchange, flags int
		kinds           []int
		e               api.Errno
	}{
		{34, 8, []int{33, 34}, api.ErrMissing}, {34, 8, nil, api.ErrMissing}, {34, 8, []int{33, 34, 40, 40}, api.ErrTwice}, {34, 8, []int{33, 34, 40, 44}, api.ErrMissing},
		{35, 8, []int{36, 39, 33, 44, 45}, api.ErrMissing}, {35, 32, []int{35, 39, 33, 44, 45}, api.ErrMissing},
		{36, 8, []int{33}, api.ErrMissing}, {36, 8, []int{33, 40, 33}, api.ErrTwice}, {37, 8, []int{45}, api.ErrMissing}, {37, 8, []int{45, 45}, api.ErrTwice},
	} {
		first, b := chained(parts(c.kinds...))
		checkParseError(t, written(c.exchange, c.flags, parts(c.kinds...)...), c.e)
		checkInsideError(t, head(c.exchange, c.flags), first, b, c.e)
	}
	want := message(34, 32, note(16390))
	want.Header.Next = 41
	checkParse(t, written(34, 32, raw(41, "00004006")), want)
	want.Payloads[0].Notify.Type = 17
	checkParse(t, written(34, 32, raw(41, "00000011")), want)
	checkParseError(t, written(34, 32, raw(41, "00004005")), api.ErrMissing)
}

// P7.2: the header stays as it is, whatever it is.
func TestInsideHeader(t *testing.T) {
	first, b := chained(parts(33, 40, 41))
	for _, h := range []api.Header{head(36, 8), {}, {Next: 999, Exchange: 37}, {Initiator: 1, Responder: 2, Next: -1, Exchange: 36, Flags: -1, ID: 7}, {Next: 46, Exchange: 99, Flags: 64}} {
		checkInside(t, h, first, b, list(33, 40, 41)...)
	}
	for _, c := range completeLists {
		first, b := chained(parts(c.kinds...))
		checkInside(t, head(c.exchange, c.flags), first, b, list(c.kinds...)...)
	}
	checkInside(t, head(37, 0), 0, nil)
	checkInside(t, head(37, 0), 0, []byte{})
}

// P7.2: the errors of the chain come first; there is no greatest length.
func TestInsideChain(t *testing.T) {
	for _, first := range []int{math.MinInt, -1, -215, 256, 256 + 46, 1<<32 + 41, math.MaxInt} {
		checkInsideError(t, head(37, 0), first, nil, api.ErrRange)
		checkInsideError(t, head(37, 0), first, unhex("00000008"+"00004004"), api.ErrRange)
	}
	checkInsideError(t, head(37, 0), 0, []byte{0}, api.ErrLength)
	checkInsideError(t, head(37, 0), 43, nil, api.ErrShort)
	long := make([]byte, 65000)
	first, b := chained([]part{{43, 0, long}, {43, 0, long}})
	checkInside(t, head(37, 0), first, b, api.Payload{Type: 43, Data: long}, api.Payload{Type: 43, Data: long})
}

// P7.2: what is sealed is not inside again; this comes ahead of what is wrong with payloads, and behind the errors of the chain.
func TestInsideSealed(t *testing.T) {
	for _, kind := range []int{46, 53} {
		for _, exchange := range []int{34, 35, 36, 37} {
			for _, ahead := range [][]part{nil, parts(41), parts(33, 34, 40), {raw(40, "")}, {critical(99, "")}, {raw(99, "")}, {raw(41, "0000000e")}, parts(40, 40)} {
				for _, body := range []string{"", "29aabb"} {
					first, b := chained(append(slices.Clip(ahead), raw(kind, body)))
					checkInsideError(t, head(exchange, 8), first, b, api.ErrOrder)
					b[len(b)-len(body)/2-4] = 41 // the first one inside of it
					checkInsideError(t, head(exchange, 8), first, b, api.ErrOrder)
					checkInsideError(t, head(exchange, 8), first, append(b, 0), api.ErrLength)
				}
			}
		}
	}
}

// P7.3: everything that a few payloads can be.
func TestCheckSets(t *testing.T) {
	l := append(list(33, 34, 35, 36, 39, 40, 44, 45, 37, 42, 43, 99), note(16388), note(16390), note(14))
	const ts = 1<<6 | 1<<7
	need := map[int]int{34: 1<<0 | 1<<1 | 1<<5, 35: 1<<4 | 1<<0 | ts, 36: 1<<0 | 1<<5}
	r := rand.New(rand.NewSource(1))
	for set := range 1 << len(l) {
		var some []api.Payload
		for i, p := range l {
			if set>>i&1 == 1 {
				some = append(some, p)
			}
		}
		r.Shuffle(len(some), func(i, j int) { some[i], some[j] = some[j], some[i] })
		for _, exchange := range []int{34, 35, 36, 37, 38} {
			for i, flags := range []int{8, 32} {
				must := need[exchange]
				if exchange == 35 {
					must |= 1 << (2 + i)
				}
				enough := set&must == must || exchange == 34 && set&(1<<13) != 0 && set&(1<<10-1|1<<11) == 0
				want := api.OK
				if set>>14&1 == 0 && (!enough || set&ts != 0 && set&ts != ts) {
					want = api.ErrMissing
				}
				checkCheck(t, message(exchange, flags, some...), want)
			}
		}
	}
}

// P7.3: only the flag of a response says whose identity is needed.
func TestCheckFlags(t *testing.T) {
	for flags := range 256 {
		for _, kind := range []int{35, 36} {
			want := api.ErrMissing
			if (kind == 36) == (flags&32 != 0) {
				want = api.OK
			}
			checkCheck(t, message(35, flags, list(kind, 39, 33, 44, 45)...), want)
		}
		checkCheck(t, message(35, flags, list(35, 36, 39, 33, 44, 45)...), api.OK)
		checkCheck(t, message(34, flags, list(33, 34, 40)...), api.OK)
		checkCheck(t, message(34, flags, note(16390)), api.OK)
		checkCheck(t, message(36, flags, list(33, 40)...), api.OK)
		checkCheck(t, message(36, flags, list(33)...), api.ErrMissing)
		checkCheck(t, message(37, flags), api.OK)
	}
}

// P7.3: other exchanges need nothing; the header says that they are wrong.
func TestCheckExchanges(t *testing.T) {
	for _, exchange := range []int{math.MinInt, -1, 0, 1, 33, 38, 255, 256 + 34, 1<<32 + 34, math.MaxInt} {
		checkCheck(t, message(exchange, 8), api.OK)
		checkCheck(t, message(exchange, 8, list(40)...), api.OK)
		checkCheck(t, message(exchange, 8, list(40, 40)...), api.ErrTwice)
		checkCheck(t, message(exchange, 8, list(44)...), api.ErrMissing)
		checkBuildError(t, message(exchange, 8), api.ErrRange)
		checkBuildError(t, message(exchange, 8, list(44)...), api.ErrMissing)
	}
	// Nothing else of the header counts.
	checkCheck(t, api.Message{Header: api.Header{Exchange: 37, Next: -1, Flags: 255}}, api.OK)
	checkCheck(t, api.Message{Header: api.Header{Exchange: 34, Next: 999, ID: 1}, Payloads: list(33, 34, 40)}, api.OK)
}

// P7.3: every type that occurs twice.
func TestCheckTwice(t *testing.T) {
	for _, kind := range append([]int{math.MinInt, -1, 0, 256, 256 + 43, 1<<32 + 41, math.MaxInt}, numbers(1, 255)...) {
		want := api.ErrTwice
		if slices.Contains([]int{37, 41, 42, 43}, kind) {
			want = api.OK
		}
		a, b := sample(kind), api.Payload{Type: kind, Data: []byte{7}}
		b.Notify.Type = 16388
		for _, exchange := range []int{34, 35, 36, 37, 99} {
			for _, flags := range []int{8, 32} {
				for _, l := range [][]api.Payload{{a, b}, {a, sample(43), b}, {sample(41), a, b}, {a, a, a}, {sample(43), sample(43), a, sample(37), sample(41), b}} {
					// A message that fails may lack everything.
					checkCheck(t, message(exchange, flags, append(slices.Clip(l), note(14))...), want)
					if want != api.OK {
						checkCheck(t, message(exchange, flags, l...), want)
						checkBuildError(t, message(exchange, flags, l...), want)
					}
				}
			}
		}
	}
}

// numbers returns the numbers from a to b.
func numbers(a, b int) []int {
	var l []int
	for i := a; i <= b; i++ {
		l = append(l, i)
	}
	return l
}

// P7.3: a sealed payload or a fragment stands alone, and then nothing is needed.
func TestCheckOrder(t *testing.T) {
	for _, kind := range []int{46, 53} {
		for _, exchange := range []int{34, 35, 36, 37, 99} {
			for _, flags := range []int{8, 32} {
				checkCheck(t, message(exchange, flags, sample(kind)), api.OK)
				checkCheck(t, message(exchange, flags, api.Payload{Type: kind}), api.OK)
				for _, other := range []int{33, 34, 37, 40, 41, 42, 43, 44, 46, 53, 99, 0} {
					want := api.ErrOrder
					if other == kind {
						want = api.ErrTwice
					}
					checkCheck(t, message(exchange, flags, list(other, kind)...), want)
					checkCheck(t, message(exchange, flags, list(kind, other)...), want)
					checkCheck(t, message(exchange, flags, append(list(kind, other), note(14))...), want)
				}
				// A type that occurs twice comes first, wherever it is.
				checkCheck(t, message(exchange, flags, list(kind, 40, 40)...), api.ErrTwice)
				checkCheck(t, message(exchange, flags, list(40, 40, kind)...), api.ErrTwice)
				checkCheck(t, message(exchange, flags, list(43, 43, kind)...), api.ErrOrder)
				checkBuildError(t, message(exchange, flags, list(43, kind)...), api.ErrOrder)
			}
		}
	}
}

// P7.3: every type of a notification.
func TestCheckNotes(t *testing.T) {
	cases := []struct {
		exchange int
		l        []api.Payload
		cookie   bool // whether asking for a cookie is enough
	}{
		{34, nil, true}, {34, list(43), true}, {34, list(41, 43), true}, {34, list(40), false}, {34, list(37), false}, {34, list(42), false}, {34, list(44, 45), false}, {34, list(99), false},
		{35, nil, false}, {36, nil, false}, {36, list(43), false}, {37, list(44), false}, {38, list(45), false},
	}
	for _, kind := range append([]int{math.MinInt, -1, 65536, 65536 + 14, 1 << 32, math.MaxInt}, numbers(0, 65535)...) {
		for _, c := range cases {
			want := api.ErrMissing
			if kind < 16384 || c.cookie && kind == 16390 {
				want = api.OK
			}
			checkCheck(t, message(c.exchange, 32, append(slices.Clip(c.l), note(kind))...), want)
			checkCheck(t, message(c.exchange, 8, append([]api.Payload{note(kind)}, c.l...)...), want)
		}
		// The field counts in notifications alone.
		checkCheck(t, message(34, 8, api.Payload{Type: 43, Notify: api.Notify{Type: kind}}), api.ErrMissing)
		checkCheck(t, message(36, 32, api.Payload{Type: 34, Notify: api.Notify{Type: kind}}), api.ErrMissing)
	}
}

// P7.4: whatever Next is, it is written as the type of the first payload.
func TestBuildNext(t *testing.T) {
	for _, next := range []int{math.MinInt, -1, 0, 33, 40, 46, 255, 256, 999, math.MaxInt} {
		m := message(36, 8, list(40, 33)...)
		m.Header.Next = next
		checkBuild(t, m, written(36, 8, parts(40, 33)...))
		m = message(37, 32)
		m.Header.Next = next
		checkBuild(t, m, whole(head(37, 32), nil))
	}
}

// P7.4: types that are not known are written as data; Parse leaves them out.
func TestBuildUnknown(t *testing.T) {
	for kind := 1; kind < 256; kind++ {
		if bodies[kind] != "" {
			continue
		}
		m := message(37, 8, api.Payload{Type: 41, Notify: api.Notify{Type: 16388}}, api.Payload{Type: kind, Data: []byte{1, 2}})
		b := written(37, 8, raw(41, "00004004"), raw(kind, "0102"))
		checkBuild(t, m, b)
		want := message(37, 8, m.Payloads[0])
		want.Header.Next = 41
		checkParse(t, b, want)
	}
	for _, kind := range []int{math.MinInt, -1, 0, 256, 256 + 46, 1 << 32, math.MaxInt} {
		checkBuildError(t, message(37, 8, api.Payload{Type: kind}), api.ErrRange)
		checkBuildError(t, message(37, 8, sample(43), api.Payload{Type: kind, Data: []byte{1}}), api.ErrRange)
	}
}

// P7.4: the first byte of what is sealed is the type of the first payload inside.
func TestBuildSealed(t *testing.T) {
	for _, kind := range []int{46, 53} {
		for _, exchange := range []int{34, 35, 36, 37} {
			for first := range 256 {
				for _, body := range []string{"", "00", "2e0102"} {
					want := written(exchange, 8, raw(kind, body))
					want[28] = byte(first)
					m := message(exchange, 8, api.Payload{Type: kind, Data: append([]byte{byte(first)}, unhex(body)...)})
					checkBuild(t, m, want)
					// Read again, it has lost this byte.
					m.Header.Next, m.Payloads[0].Data = kind, unhex(body)
					checkParse(t, want, m)
				}
			}
			for _, h := range []api.Header{head(exchange, 8), {Exchange: exchange}, {Exchange: 99}} {
				checkBuildError(t, api.Message{Header: h, Payloads: []api.Payload{{Type: kind}}}, api.ErrShort)
				checkBuildError(t, api.Message{Header: h, Payloads: []api.Payload{{Type: kind, Data: []byte{}}}}, api.ErrShort)
				checkBuildError(t, api.Message{Header: h, Payloads: []api.Payload{{Type: kind, Data: make([]byte, 65532)}}}, api.ErrTooLong)
			}
			checkBuildError(t, api.Message{Header: api.Header{Exchange: exchange}, Payloads: []api.Payload{{Type: kind, Data: make([]byte, 65531)}}}, api.ErrSpi)
			for _, n := range []int{api.MaxMessage - 31, api.MaxMessage - 30, 65531} {
				m := message(exchange, 8, api.Payload{Type: kind, Data: make([]byte, n)})
				if n > api.MaxMessage-31 {
					checkBuildError(t, m, api.ErrTooLong)
				} else {
					checkBuild(t, m, written(exchange, 8, part{kind, 0, make([]byte, n-1)}))
				}
			}
		}
	}
}

// P7.4: the greatest length.
func TestBuildTooLong(t *testing.T) {
	for _, n := range []int{api.MaxMessage - 1, api.MaxMessage} {
		data := bytes.Repeat([]byte{0xb6}, n-36)
		checkBuild(t, message(37, 8, api.Payload{Type: 43, Data: data}, api.Payload{Type: 43}), written(37, 8, part{43, 0, data}, raw(43, "")))
	}
	for _, n := range []int{api.MaxMessage + 1, api.MaxMessage + 2, 65535, 65567} {
		checkBuildError(t, message(37, 8, api.Payload{Type: 43, Data: make([]byte, n-36)}, api.Payload{Type: 43}), api.ErrTooLong)
	}
	checkBuildError(t, message(37, 8, slices.Repeat([]api.Payload{{Type: 43, Data: make([]byte, 300)}}, 30)...), api.ErrTooLong)
	checkBuildError(t, message(37, 8, slices.Repeat([]api.Payload{{Type: 43, Data: make([]byte, 65531)}}, 40)...), api.ErrTooLong)
}

// P7.4: which error comes first.
func TestBuildErrorOrder(t *testing.T) {
	noSpi := api.Header{Exchange: 37}
	badNonce := api.Payload{Type: 40}                                                 // ErrKey
	badGroup := api.Payload{Type: 34, Exchange: api.Exchange{Group: -1}}              // ErrRange
	badNote := api.Payload{Type: 41, Notify: api.Notify{Type: 16388, Spi: []byte{1}}} // ErrSpi
	most := vendors(api.MaxPayloads)
	more := vendors(api.MaxPayloads + 1)
	long := api.Payload{Type: 43, Data: make([]byte, api.MaxMessage)}
	longer := api.Payload{Type: 43, Data: make([]byte, 65532)}
	for i, c := range []struct {
		h api.Header
		l []api.Payload
		e api.Errno
	}{
		// Check comes ahead of all others.
		{noSpi, []api.Payload{badNonce, badNonce}, api.ErrTwice},
		{noSpi, []api.Payload{badGroup, sample(44)}, api.ErrMissing},
		{noSpi, append(list(44), more...), api.ErrMissing},
		{api.Header{Exchange: 34}, []api.Payload{longer}, api.ErrMissing},
		// Then the payloads, in order.
		{noSpi, []api.Payload{badNonce, badGroup, badNote}, api.ErrKey},
		{noSpi, []api.Payload{badGroup, badNonce, badNote}, api.ErrRange},
		{noSpi, []api.Payload{sample(43), badNote, badGroup, badNonce}, api.ErrSpi},
		{head(37, 8), append(slices.Clone(more), badNonce), api.ErrKey},
		{noSpi, append(slices.Clone(more), longer), api.ErrTooLong},
		{head(37, 8), append([]api.Payload{{Type: 0}}, more...), api.ErrRange},
		// Then the chain.
		{noSpi, more, api.ErrTooMany},
		{api.Header{}, more, api.ErrTooMany},
		{head(37, 8), more, api.ErrTooMany},
		{head(37, 8), append(slices.Clone(more), long), api.ErrTooMany},
		{head(37, 8), append(slices.Clone(most), sample(99)), api.ErrTooMany},
		// Then the header.
		{noSpi, []api.Payload{long}, api.ErrSpi},
		{noSpi, most, api.ErrSpi},
		{api.Header{Initiator: 1}, []api.Payload{long}, api.ErrRange},
		{api.Header{Initiator: 1, Exchange: 37}, []api.Payload{long}, api.ErrSpi},
		{api.Header{Initiator: 1, Exchange: 34, ID: 1}, append(list(33, 34, 40), long), api.ErrOrder},
		{api.Header{Initiator: 1, Exchange: 37, Responder: 1, Flags: 64}, []api.Payload{long}, api.ErrRange},
		{head(37, 8), []api.Payload{long}, api.ErrTooLong},
		{head(37, 8), most, api.OK},
	} {
		b, e := Build(api.Message{Header: c.h, Payloads: c.l})
		if e != c.e || e != api.OK && len(b) != 0 {
			t.Errorf("%d: Build = %d bytes, %d, want %d", i, len(b), e, c.e)
		}
	}
}

// P7.5
func TestFind(t *testing.T) {
	second := api.Payload{Type: 41, Notify: api.Notify{Type: 5, Data: []byte{1}}}
	m := message(34, 8, append(list(43, 41, 33, 34, 40, 44), second, api.Payload{Type: 43, Data: []byte{2}}, api.Payload{Type: -7, Data: []byte{3}})...)
	for kind := -10; kind < 300; kind++ {
		at := slices.IndexFunc(m.Payloads, func(p api.Payload) bool { return p.Type == kind })
		got, ok := Find(m, kind)
		if ok != (at >= 0) || ok && !payload.Same(got, m.Payloads[at]) {
			t.Errorf("Find(%d) = %v, %v", kind, got, ok)
		}
		if !ok && !empty(got) {
			t.Errorf("Find(%d) = %v", kind, got)
		}
		if got, ok := Find(api.Message{Header: head(34, 8)}, kind); ok || !empty(got) {
			t.Errorf("Find(%d) without payloads = %v, %v", kind, got, ok)
		}
	}
	if got, _ := Find(m, 41); got.Notify.Type != 16388 || len(got.Notify.Data) != 0 {
		t.Errorf("Find(41) = %v", got)
	}
}

// empty reports whether all fields of a payload are zero.
func empty(p api.Payload) bool {
	return p.Type == 0 && len(p.Proposals) == 0 && p.Exchange.Group == 0 && p.Identity.Kind == 0 && p.Auth.Method == 0 &&
		p.Notify.Type == 0 && p.Delete.Protocol == 0 && len(p.Selectors) == 0 && len(p.Data) == 0
}

// P7.5
func TestNotes(t *testing.T) {
	note := func(kind int, data ...byte) api.Payload {
		return api.Payload{Type: 41, Notify: api.Notify{Protocol: 3, Spi: []byte{1, 2, 3, 4}, Type: kind, Data: data}}
	}
	m := message(37, 8, note(16388, 1), sample(40), note(5, 2), note(16388), note(16388, 3), api.Payload{Type: 43, Notify: api.Notify{Type: 16388}}, note(-1, 4), sample(43))
	for kind, want := range map[int][][]byte{16388: {{1}, {}, {3}}, 5: {{2}}, -1: {{4}}, 0: {}, 41: {}, 43: {}, 16389: {}} {
		l := Notes(m, kind)
		if len(l) != len(want) {
			t.Errorf("Notes(%d) = %v", kind, l)
			continue
		}
		for i, n := range l {
			if n.Type != kind || n.Protocol != 3 || !bytes.Equal(n.Spi, []byte{1, 2, 3, 4}) || !bytes.Equal(n.Data, want[i]) {
				t.Errorf("Notes(%d) = %v", kind, l)
			}
		}
	}
	if l := Notes(api.Message{}, 0); len(l) != 0 {
		t.Errorf("Notes without payloads = %v", l)
	}
}

// P7.5
func TestReply(t *testing.T) {
	want := map[api.Errno]int{
		1: 7, 2: 7, 3: 5, 4: 7, 5: 7, 6: 1, 7: 7, 8: 7, 9: 7, 10: 7, 11: 7, 13: 17, 15: 7, 16: 14, 17: 38, 18: 24, 19: 24, 20: 4, 21: 43, 25: 35,
	}
	for e := api.Errno(-300); e < 300; e++ {
		n, ok := Reply(e)
		if n != want[e] || ok != (want[e] != 0) {
			t.Errorf("Reply(%d) = %d, %v", e, n, ok)
		}
	}
	for _, e := range []api.Errno{math.MinInt, 1<<32 + 3, math.MaxInt} {
		if n, ok := Reply(e); n != 0 || ok {
			t.Errorf("Reply(%d) = %d, %v", e, n, ok)
		}
	}
	// The example of the chapter.
	_, e := Parse(written(34, 8, parts(33, 34)...))
	if n, ok := Reply(e); e != api.ErrMissing || n != api.NoteSyntax || !ok {
		t.Errorf("the Reply to a request without a nonce is %d, %v", n, ok)
	}
}

// P7.6: messages of known payloads in any number and order.
func TestParseOfBuild(t *testing.T) {
	r := rand.New(rand.NewSource(2))
	for range 20000 {
		c := completeLists[r.Intn(len(completeLists))]
		kinds := slices.Clone(c.kinds)
		for range r.Intn(6) {
			kinds = append(kinds, []int{37, 41, 42, 43}[r.Intn(4)])
		}
		for _, kind := range []int{33, 34, 35, 36, 39, 40} {
			if r.Intn(4) == 0 && !slices.Contains(kinds, kind) {
				kinds = append(kinds, kind)
			}
		}
		r.Shuffle(len(kinds), func(i, j int) { kinds[i], kinds[j] = kinds[j], kinds[i] })
		m := message(c.exchange, c.flags, list(kinds...)...)
		for i := range m.Payloads {
			vary(&m.Payloads[i], r)
		}
		b, e := Build(m)
		if e != api.OK {
			t.Fatalf("Build(%v) = %d", m, e)
		}
		if len(kinds) > 0 {
			m.Header.Next = kinds[0]
		}
		checkParse(t, b, m)
		checkBuild(t, m, b)
		checkInside(t, m.Header, m.Header.Next, b[28:], m.Payloads...)
	}
}

// vary gives another content to a payload.
func vary(p *api.Payload, r *rand.Rand) {
	data := make([]byte, 16+r.Intn(30))
	r.Read(data)
	switch p.Type {
	case 34:
		p.Exchange = api.Exchange{Group: r.Intn(65536), Data: data}
	case 39:
		p.Auth.Data = data
	case 37, 40, 43:
		p.Data = data
	case 41:
		p.Notify = api.Notify{Protocol: 2 + r.Intn(2), Spi: data[:4:4], Type: r.Intn(65536), Data: data[4:]}
	case 42:
		p.Delete = api.Delete{Protocol: 2, Spis: [][]byte{data[:4], append(data[1:4:4], data[0]+1)}}
	}
}

// P7.6, R1: messages that are changed at a few places are either refused, with an error that has a reply, or built again.
func TestParseChanged(t *testing.T) {
	r := rand.New(rand.NewSource(3))
	accepted, errors := 0, map[api.Errno]int{}
	for range 200000 {
		c := completeLists[r.Intn(len(completeLists))]
		b := written(c.exchange, c.flags, parts(append(slices.Clone(c.kinds), 41, 42, 43)...)...)
		for range r.Intn(3) {
			b[r.Intn(len(b))] = byte(r.Intn(256) >> r.Intn(8))
		}
		if r.Intn(8) == 0 {
			b = b[:r.Intn(len(b))]
		}
		if r.Intn(8) > 0 && len(b) >= 28 {
			copy(b[24:], wire.Put(nil, uint64(len(b)), 4))
		}
		m, e := Parse(b)
		if e != api.OK {
			errors[e]++
			checkParseError(t, b, e)
			continue
		}
		accepted++
		if _, ok := Find(m, 46); ok {
			continue
		}
		if _, ok := Find(m, 53); ok {
			continue
		}
		again, e := Build(m)
		if e != api.OK {
			t.Fatalf("Build of Parse(%x) = %d", b, e)
		}
		next := m.Header.Next
		m.Header.Next = int(again[16])
		checkParse(t, again, m)
		if len(again) == len(b) && next != m.Header.Next {
			t.Errorf("Next of %x is %d", b, next)
		}
	}
	if accepted < 40000 || len(errors) < 10 {
		t.Errorf("%d were accepted; the others have the errors %v", accepted, errors)
	}
}

// R1: no function panics on messages that are not as they should be.
func TestAnyMessageReturns(t *testing.T) {
	r := rand.New(rand.NewSource(4))
	numbers := []int{math.MinInt, -1, 0, 1, 34, 37, 255, 256, 65536, math.MaxInt}
	number := func() int { return numbers[r.Intn(len(numbers))] }
	for range 50000 {
		m := message(32+r.Intn(8), number())
		m.Header.Next = number()
		m.Header.Initiator *= uint64(r.Intn(2))
		for range r.Intn(5) {
			p := sample(32 + r.Intn(24))
			if r.Intn(4) == 0 {
				p = api.Payload{Type: number(), Notify: api.Notify{Type: number()}, Proposals: make([]api.Proposal, r.Intn(2)), Data: make([]byte, r.Intn(20))}
			}
			m.Payloads = append(m.Payloads, p)
		}
		want := Check(m)
		b, e := Build(m)
		if want != api.OK && e != want || e != api.OK && len(b) != 0 {
			t.Errorf("Build(%v) = %x, %d, want %d", m, b, e, want)
		}
		Find(m, number())
		Notes(m, number())
		junk := make([]byte, r.Intn(12))
		for i := range junk {
			junk[i] = []byte{0, 0, 4, 5, 8, 41, 43, 46}[r.Intn(8)]
		}
		if m, e := Inside(m.Header, 40+r.Intn(8), junk); e != api.OK && !same(m, api.Message{}) {
			t.Errorf("Inside = %v, %d", m, e)
		}
	}
}

// R2: bytes stay as they are, with their spare capacity, and payloads are memory of their own.
func TestBytesStay(t *testing.T) {
	for _, c := range completeLists {
		kinds := append(slices.Clone(c.kinds), 37, 41, 42, 43)
		b := written(c.exchange, c.flags, parts(kinds...)...)
		buffer := append(bytes.Clone(b), bytes.Repeat([]byte{0xa5}, 64)...)
		kept := bytes.Clone(buffer)
		m, _ := Parse(buffer[:len(b)])
		n, _ := Inside(head(c.exchange, c.flags), kinds[0], buffer[28:len(b)])
		for _, p := range append(m.Payloads, n.Payloads...) {
			spoil(p)
		}
		if !bytes.Equal(buffer, kept) {
			t.Errorf("the bytes became %x", buffer)
		}
	}
}

// spoil overwrites all lists of a payload.
func spoil(p api.Payload) {
	for _, q := range p.Proposals {
		fill(q.Spi)
		clear(q.Transforms[:cap(q.Transforms)])
	}
	for _, b := range append([][]byte{p.Data, p.Exchange.Data, p.Identity.Data, p.Auth.Data, p.Notify.Spi, p.Notify.Data}, p.Delete.Spis...) {
		fill(b)
	}
	clear(p.Proposals[:cap(p.Proposals)])
	clear(p.Delete.Spis[:cap(p.Delete.Spis)])
	clear(p.Selectors[:cap(p.Selectors)])
}

// fill overwrites bytes, with their spare capacity.
func fill(b []byte) {
	b = b[:cap(b)]
	for i := range b {
		b[i] = 0x77
	}
}

// full returns a payload that has something in each field, with spare capacity.
func full(kind int) api.Payload {
	list := func(n byte) []byte {
		return append(make([]byte, 0, 40), n, n, n, n, n, n, n, n, n, n, n, n, n, n, n, n)
	}
	p := sample(kind)
	if kind != 33 {
		p.Proposals = []api.Proposal{{Number: 1, Spi: list(1), Transforms: []api.Transform{{Type: 1}}}, {Number: 2, Spi: list(2), Transforms: []api.Transform{{Type: 2}, {Type: 3}}}}
	}
	for _, b := range []*[]byte{&p.Exchange.Data, &p.Identity.Data, &p.Auth.Data, &p.Notify.Data, &p.Data} {
		if len(*b) == 0 {
			*b = list(byte(kind))
		}
		*b = append(make([]byte, 0, 40), *b...)
	}
	if kind != 41 {
		p.Notify.Spi = list(3)
	}
	if kind != 42 {
		p.Delete.Spis = append(make([][]byte, 0, 8), list(4), list(5))
	}
	if kind != 44 && kind != 45 {
		p.Selectors = append(make([]api.Selector, 0, 8), api.Selector{Protocol: 1}, api.Selector{Protocol: 2})
	}
	return p
}

// everySame compares all fields of two payloads.
func everySame(a, b api.Payload) bool {
	if a.Type != b.Type {
		return false
	}
	for _, kind := range []int{33, 34, 35, 39, 40, 41, 42, 44} {
		a.Type, b.Type = kind, kind
		if !payload.Same(a, b) {
			return false
		}
	}
	return true
}

// R2: messages stay as they are, with the spare capacity of their lists; what Find and Notes return are all fields, in memory of their own.
func TestMessageStays(t *testing.T) {
	for _, c := range completeLists {
		kinds := append(slices.Clone(c.kinds), 37, 41, 42, 43)
		m := message(c.exchange, c.flags)
		for _, kind := range kinds {
			m.Payloads = append(m.Payloads, full(kind))
		}
		short := m
		short.Payloads = m.Payloads[:len(c.kinds)]
		check := func(name string) {
			t.Helper()
			for i, p := range m.Payloads {
				if !everySame(p, full(kinds[i])) {
					t.Errorf("%s: the payload became %v", name, p)
				}
				for _, b := range [][]byte{p.Data, p.Exchange.Data, p.Identity.Data, p.Auth.Data, p.Notify.Data} {
					if rest := b[len(b):cap(b)]; !bytes.Equal(rest, make([]byte, len(rest))) {
						t.Errorf("%s: the spare capacity became %x", name, rest)
					}
				}
			}
		}
		for _, kind := range kinds {
			got, ok := Find(m, kind)
			if !ok || !everySame(got, full(kind)) {
				t.Errorf("Find(%d) = %v, %v", kind, got, ok)
			}
			spoil(got)
			check("Find")
		}
		for _, n := range Notes(m, 16388) {
			spoil(api.Payload{Notify: n})
		}
		check("Notes")
		b, e := Build(short)
		if e != api.OK {
			t.Errorf("Build = %d", e)
		}
		fill(b)
		Build(m)
		check("Build")
	}
	// Of what is sealed, the first byte stands elsewhere in the bytes.
	m := message(37, 8, sample(46))
	b, _ := Build(m)
	fill(b)
	if !payload.Same(m.Payloads[0], sample(46)) {
		t.Errorf("the payload became %v", m.Payloads[0])
	}
}
