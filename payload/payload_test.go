package payload

import (
	"bytes"
	"fmt"
	"math"
	"math/rand"
	"slices"
	"testing"

	"ipsecgate/api"
	"ipsecgate/proposal"
	"ipsecgate/selector"
	"ipsecgate/wire"
)

// unhex returns the bytes of texts that are written by hand.
func unhex(texts ...string) []byte {
	var out []byte
	for _, s := range texts {
		b, e := wire.Unhex(s)
		if e != api.OK {
			panic(s)
		}
		out = append(out, b...)
	}
	return out
}

// same compares all fields of two payloads, also those that do not belong to their types; a nil list is an empty one.
func same(a, b api.Payload) bool {
	sameProposals := slices.EqualFunc(a.Proposals, b.Proposals, func(p, q api.Proposal) bool {
		return p.Number == q.Number && p.Protocol == q.Protocol && bytes.Equal(p.Spi, q.Spi) && slices.Equal(p.Transforms, q.Transforms)
	})
	return sameProposals && slices.EqualFunc(lists(a), lists(b), bytes.Equal) && slices.Equal(a.Selectors, b.Selectors) &&
		[6]int{a.Type, a.Exchange.Group, a.Identity.Kind, a.Auth.Method, a.Notify.Protocol, a.Notify.Type} ==
			[6]int{b.Type, b.Exchange.Group, b.Identity.Kind, b.Auth.Method, b.Notify.Protocol, b.Notify.Type} &&
		a.Delete.Protocol == b.Delete.Protocol
}

// lists returns all lists of bytes of a payload but those of its proposals.
func lists(p api.Payload) [][]byte {
	return append([][]byte{p.Data, p.Exchange.Data, p.Identity.Data, p.Auth.Data, p.Notify.Spi, p.Notify.Data}, p.Delete.Spis...)
}

// brief is a payload that is printed in a test.
type brief api.Payload

func (p brief) String() string {
	text := fmt.Sprint(api.Payload(p))
	return text[:min(len(text), 200)]
}

func checkParse(t *testing.T, kind int, b []byte, want api.Payload) {
	t.Helper()
	want.Type = kind
	for _, critical := range []bool{false, true} {
		p, e := Parse(api.Raw{Type: kind, Critical: critical, Body: b})
		if !same(p, want) || e != api.OK {
			t.Errorf("Parse(%d, %.80x) = %v, %d, want %v", kind, b, brief(p), e, brief(want))
		}
	}
}

func checkParseError(t *testing.T, kind int, b []byte, want api.Errno) {
	t.Helper()
	if p, e := Parse(api.Raw{Type: kind, Body: b}); !same(p, api.Payload{}) || e != want {
		t.Errorf("Parse(%d, %.80x) = %v, %d, want the error %d", kind, b, brief(p), e, want)
	}
}

func checkBuild(t *testing.T, p api.Payload, want []byte) {
	t.Helper()
	r, e := Build(p)
	if r.Type != p.Type || r.Critical || !bytes.Equal(r.Body, want) || e != api.OK {
		t.Errorf("Build(%v) = %d, %v, %.80x, %d, want %.80x", brief(p), r.Type, r.Critical, r.Body, e, want)
	}
}

// checkBuildError fails unless Build returns the error, whatever the fields of other types are.
func checkBuildError(t *testing.T, p api.Payload, want api.Errno) {
	t.Helper()
	for _, p := range []api.Payload{p, joined(p, right), joined(p, wrong)} {
		if r, e := Build(p); r.Type != 0 || r.Critical || len(r.Body) != 0 || e != want {
			t.Errorf("Build(%v) = %d, %.80x, %d, want the error %d", brief(p), r.Type, r.Body, e, want)
		}
	}
}

// checkBoth fails unless Build writes these bytes, and Parse reads them again.
func checkBoth(t *testing.T, p api.Payload, b []byte) {
	t.Helper()
	checkBuild(t, p, b)
	checkParse(t, p.Type, b, p)
}

// right has in each field what Build accepts, wrong what it does not.
var (
	right = api.Payload{
		Proposals: []api.Proposal{{Number: 1, Protocol: 3, Spi: unhex("01020304"), Transforms: []api.Transform{{Type: 1, ID: 28}}}},
		Exchange:  api.Exchange{Group: 31, Data: []byte{9}},
		Identity:  api.Identity{Kind: api.IdName, Data: []byte{8}},
		Auth:      api.Auth{Method: api.AuthRaw, Data: []byte{7}},
		Notify:    api.Notify{Protocol: 3, Spi: unhex("05060708"), Type: 6, Data: []byte{6}},
		Delete:    api.Delete{Protocol: 3, Spis: [][]byte{unhex("0a0b0c0d")}},
		Selectors: []api.Selector{{PortHi: 65535, Lo: api.Address{Family: 4, Lo: 1}, Hi: api.Address{Family: 4, Lo: 2}}},
		Data:      bytes.Repeat([]byte{5}, 20),
	}
	wrong = api.Payload{
		Proposals: []api.Proposal{{}},
		Exchange:  api.Exchange{Group: -1},
		Identity:  api.Identity{Kind: 999},
		Auth:      api.Auth{Method: -5},
		Notify:    api.Notify{Protocol: 4, Spi: []byte{1}, Type: 65536},
		Delete:    api.Delete{Protocol: 9, Spis: [][]byte{{}, {}}},
		Selectors: []api.Selector{{}},
		Data:      make([]byte, 70000),
	}
)

// joined returns p with the fields of other types taken from q.
func joined(p, q api.Payload) api.Payload {
	q.Type = p.Type
	switch p.Type {
	case 33:
		q.Proposals = p.Proposals
	case 34:
		q.Exchange = p.Exchange
	case 35, 36:
		q.Identity = p.Identity
	case 39:
		q.Auth = p.Auth
	case 41:
		q.Notify = p.Notify
	case 42:
		q.Delete = p.Delete
	case 44, 45:
		q.Selectors = p.Selectors
	default:
		q.Data = p.Data
	}
	return q
}

// short and long are the nonces at the limits.
var short, long = bytes.Repeat([]byte{0x5a}, 16), bytes.Repeat([]byte{0xa7}, 256)

// samples are bodies as they are read and as they are written, of all types; the bytes that do not count are not 0.
func samples() []sample {
	proposals := []api.Proposal{
		{Number: 1, Protocol: 1, Spi: unhex("a1a2a3a4a5a6a7a8"), Transforms: []api.Transform{{Type: 1, ID: 20, Key: 256}, {Type: 2, ID: 5}}},
		{Number: 2, Protocol: 2, Spi: unhex("b1b2b3b4"), Transforms: []api.Transform{{Type: 3}}},
	}
	selectors := []api.Selector{
		{Protocol: 6, PortLo: 80, PortHi: 90, Lo: api.Address{Family: 4, Lo: 0x0a000000}, Hi: api.Address{Family: 4, Lo: 0x0a0000ff}},
		{PortLo: 65535, Lo: api.Address{Family: 6, Lo: 1}, Hi: api.Address{Family: 6, Hi: 2}},
	}
	selectorBytes := "07060010" + "0050005a" + "0a000000" + "0a0000ff" + "08000028" + "ffff0000" +
		"00000000000000000000000000000001" + "00000000000000020000000000000000"
	return []sample{
		{33, "02810024" + "01010802" + "a1a2a3a4a5a6a7a8" + "0382000c" + "01830014" + "800e0100" + "00840008" + "02850005" + "00860014" + "02020401" + "b1b2b3b4" + "00870008" + "03880000",
			"02000024" + "01010802" + "a1a2a3a4a5a6a7a8" + "0300000c" + "01000014" + "800e0100" + "00000008" + "02000005" + "00000014" + "02020401" + "b1b2b3b4" + "00000008" + "03000000",
			api.Payload{Proposals: proposals}},
		{44, "02818283" + selectorBytes, "02000000" + selectorBytes, api.Payload{Selectors: selectors}},
		{45, "01818283" + selectorBytes[:32], "01000000" + selectorBytes[:32], api.Payload{Selectors: selectors[:1]}},
		{34, "12348182" + "abcdef", "12340000" + "abcdef", api.Payload{Exchange: api.Exchange{Group: 0x1234, Data: unhex("abcdef")}}},
		{34, "ff00ffff" + "00", "ff000000" + "00", api.Payload{Exchange: api.Exchange{Group: 0xff00, Data: unhex("00")}}},
		{35, "01818283" + "0a000001", "01000000" + "0a000001", api.Payload{Identity: api.Identity{Kind: 1, Data: unhex("0a000001")}}},
		{36, "02818283" + "61", "02000000" + "61", api.Payload{Identity: api.Identity{Kind: 2, Data: []byte("a")}}},
		{35, "03818283" + "614062", "03000000" + "614062", api.Payload{Identity: api.Identity{Kind: 3, Data: []byte("a@b")}}},
		{36, "05818283" + wire.Hex(short), "05000000" + wire.Hex(short), api.Payload{Identity: api.Identity{Kind: 5, Data: short}}},
		{36, "0b818283" + "000102030405", "0b000000" + "000102030405", api.Payload{Identity: api.Identity{Kind: 11, Data: unhex("000102030405")}}},
		{39, "02818283" + "01", "02000000" + "01", api.Payload{Auth: api.Auth{Method: 2, Data: unhex("01")}}},
		{39, "0e818283" + "010203", "0e000000" + "010203", api.Payload{Auth: api.Auth{Method: 14, Data: unhex("010203")}}},
		{40, wire.Hex(short), wire.Hex(short), api.Payload{Data: short}},
		{40, wire.Hex(long), wire.Hex(long), api.Payload{Data: long}},
		{41, "00004004", "00004004", api.Payload{Notify: api.Notify{Type: 16388}}},
		{41, "0000ff12" + "010203", "0000ff12" + "010203", api.Payload{Notify: api.Notify{Type: 0xff12, Data: unhex("010203")}}},
		{41, "01000000" + "01020304", "01000000" + "01020304", api.Payload{Notify: api.Notify{Protocol: 1, Data: unhex("01020304")}}},
		{41, "0204000b" + "01020304", "0204000b" + "01020304", api.Payload{Notify: api.Notify{Protocol: 2, Spi: unhex("01020304"), Type: 11}}},
		{41, "0304ffff" + "01020304" + "0506", "0304ffff" + "01020304" + "0506", api.Payload{Notify: api.Notify{Protocol: 3, Spi: unhex("01020304"), Type: 65535, Data: unhex("0506")}}},
		{42, "01000000", "01000000", api.Payload{Delete: api.Delete{Protocol: 1}}},
		{42, "02040001" + "01020304", "02040001" + "01020304", api.Payload{Delete: api.Delete{Protocol: 2, Spis: [][]byte{unhex("01020304")}}}},
		{42, "03040003" + "f1020304" + "01020305" + "00000000", "03040003" + "f1020304" + "01020305" + "00000000", api.Payload{Delete: api.Delete{Protocol: 3, Spis: [][]byte{unhex("f1020304"), unhex("01020305"), unhex("00000000")}}}},
		{37, "04010203", "04010203", api.Payload{Data: unhex("04010203")}},
		{43, "", "", api.Payload{}},
		{46, "29aabb", "29aabb", api.Payload{Data: unhex("29aabb")}},
		{53, "2900010002", "2900010002", api.Payload{Data: unhex("2900010002")}},
		{38, "01", "01", api.Payload{Data: unhex("01")}},
		{200, "0708", "0708", api.Payload{Data: unhex("0708")}},
	}
}

type sample struct {
	kind       int
	hex, plain string
	p          api.Payload
}

// P6.1, P6.2, P6.3
func TestSamples(t *testing.T) {
	for _, s := range samples() {
		s.p.Type = s.kind
		checkParse(t, s.kind, unhex(s.hex), s.p)
		checkBoth(t, s.p, unhex(s.plain))
		// Fields of other types are not used.
		checkBuild(t, joined(s.p, right), unhex(s.plain))
		checkBuild(t, joined(s.p, wrong), unhex(s.plain))
	}
}

// P6.2: a body that ends in the fixed part.
func TestParseShort(t *testing.T) {
	for _, kind := range []int{33, 34, 35, 36, 39, 41, 42, 44, 45} {
		checkParseError(t, kind, nil, api.ErrShort)
		checkParseError(t, kind, []byte{}, api.ErrShort)
	}
	for _, s := range samples() {
		switch s.kind {
		case 34, 35, 36, 39, 41, 42, 44, 45:
			b := unhex(s.hex)
			for n := range 4 {
				checkParseError(t, s.kind, b[:n], api.ErrShort)
				checkParseError(t, s.kind, b[:n:n], api.ErrShort)
				// What stands there may be wrong as well.
				checkParseError(t, s.kind, bytes.Repeat([]byte{0xff}, n), api.ErrShort)
				checkParseError(t, s.kind, make([]byte, n), api.ErrShort)
			}
		}
	}
}

// P6.1, P6.2, P6.3: what layer 4 and layer 5 say of bodies.
func TestParseLayers(t *testing.T) {
	for _, text := range []string{
		"00", "00000014", "00000014010304010102030400000008010000", "00000014020304010102030400000008010000" + "1c", "0000001401090401010203040000000801" + "00001c",
		"0000001001030001" + "00000008" + "0100001c", "0000000c0103040001020304", "00000014010304010102030400000008090000" + "1c", "0000001c010304020102030403000008010000" + "1c00000008010000" + "1c",
	} {
		_, want := proposal.Parse(unhex(text))
		if want == api.OK {
			t.Fatal(text)
		}
		checkParseError(t, 33, unhex(text), want)
	}
	for _, text := range []string{
		"00000000", "11000000", "0100000000", "01000000" + "07000010" + "0000ffff" + "00000000" + "ffffff", "01000000" + "07000010" + "0000ffff" + "00000002" + "00000001",
		"01000000" + "07000010" + "0002" + "0001" + "00000001" + "00000002", "01000000" + "07000010" + "0000ffff" + "00000000" + "ffffffff" + "00",
	} {
		_, want := selector.Parse(unhex(text))
		if want == api.OK {
			t.Fatal(text)
		}
		checkParseError(t, 44, unhex(text), want)
		checkParseError(t, 45, unhex(text), want)
	}
	for _, l := range [][]api.Proposal{nil, {}, make([]api.Proposal, 9), {{}}, {{Number: 1}}, {{Number: 1, Protocol: 300}}, {{Number: 2, Protocol: 300}}, {{Number: 1, Protocol: 3}}, {{Number: 1, Protocol: 1}}, {right.Proposals[0], right.Proposals[0]}} {
		_, want := proposal.Build(l)
		checkBuildError(t, api.Payload{Type: 33, Proposals: l}, want)
	}
	for _, l := range [][]api.Selector{nil, {}, make([]api.Selector, 17), {{}}, {right.Selectors[0], {Protocol: 300}}, {right.Selectors[0], {Protocol: 300, Lo: api.Address{Family: 6}, Hi: api.Address{Family: 6}}}} {
		_, want := selector.Build(l)
		checkBuildError(t, api.Payload{Type: 44, Selectors: l}, want)
		checkBuildError(t, api.Payload{Type: 45, Selectors: l}, want)
	}
}

// numbers returns the numbers from 0 to n - 1, and others behind them.
func numbers(n int) []int {
	l := make([]int, n)
	for i := range l {
		l[i] = i
	}
	return append(l, others...)
}

// others are numbers that have the lowest bytes of small ones, and the ends of the type.
var others = []int{-1, -2, -255, -256, -65536, math.MinInt, math.MinInt + 2, 1 << 16, 1<<16 + 1, 1<<16 + 14, 1 << 32, 1<<32 + 1, 1<<32 + 2, 1<<32 + 3, math.MaxInt}

// P6.1, P6.2, P6.3: every group.
func TestExchange(t *testing.T) {
	for group := range 65536 {
		p := api.Payload{Type: 34, Exchange: api.Exchange{Group: group, Data: []byte{1, 2}}}
		checkBoth(t, p, append(wire.Put(nil, uint64(group), 2), 0, 0, 1, 2))
	}
	for i := range 65536 {
		checkParse(t, 34, []byte{0, 7, byte(i >> 8), byte(i), 3}, api.Payload{Exchange: api.Exchange{Group: 7, Data: []byte{3}}})
	}
	checkParseError(t, 34, unhex("00000000"), api.ErrKey)
	checkParseError(t, 34, unhex("ffffffff"), api.ErrKey)
	checkBuildError(t, api.Payload{Type: 34}, api.ErrKey)
	checkBuildError(t, api.Payload{Type: 34, Exchange: api.Exchange{Group: 65535, Data: []byte{}}}, api.ErrKey)
	for _, group := range others {
		checkBuildError(t, api.Payload{Type: 34, Exchange: api.Exchange{Group: group}}, api.ErrRange)
		checkBuildError(t, api.Payload{Type: 34, Exchange: api.Exchange{Group: group, Data: []byte{1}}}, api.ErrRange)
		checkBuildError(t, api.Payload{Type: 34, Exchange: api.Exchange{Group: group, Data: make([]byte, 70000)}}, api.ErrRange)
	}
}

// identityError returns the error of an identity with n bytes of data.
func identityError(kind, n int) api.Errno {
	switch {
	case !slices.Contains([]int{1, 2, 3, 5, 11}, kind):
		return api.ErrRange
	case kind == 1 && n != 4, kind == 5 && n != 16, n == 0:
		return api.ErrLength
	}
	return api.OK
}

// P6.1, P6.2, P6.3: every kind of an identity.
func TestIdentity(t *testing.T) {
	for i, kind := range numbers(256) {
		for n := range 40 {
			data := bytes.Repeat([]byte{0xc3}, n)
			for _, part := range []int{35, 36} {
				p := api.Payload{Type: part, Identity: api.Identity{Kind: kind, Data: data}}
				b := append([]byte{byte(kind), 0, 0, 0}, data...)
				switch e := identityError(kind, n); {
				case e == api.OK:
					checkBoth(t, p, b)
					checkParse(t, part, append([]byte{byte(kind), 0xff, 1, 0x80}, data...), p)
				default:
					checkBuildError(t, p, e)
					if i < 256 {
						checkParseError(t, part, b, e)
						checkParseError(t, part, append([]byte{byte(kind), 0xff, 1, 2}, data...), e)
					}
				}
			}
		}
	}
	checkBuildError(t, api.Payload{Type: 35, Identity: api.Identity{Kind: 1, Data: make([]byte, 70000)}}, api.ErrLength)
	checkBuildError(t, api.Payload{Type: 36, Identity: api.Identity{Kind: 4, Data: make([]byte, 70000)}}, api.ErrRange)
	checkBuildError(t, api.Payload{Type: 36, Identity: api.Identity{Kind: 1, Data: make([]byte, 260)}}, api.ErrLength)
}

// P6.1, P6.2, P6.3: every method of an authentication.
func TestAuth(t *testing.T) {
	for i, method := range numbers(256) {
		for n := range 4 {
			data := []byte{0, 9, 8, 7}[:n:n]
			p := api.Payload{Type: 39, Auth: api.Auth{Method: method, Data: data}}
			b := append([]byte{byte(method), 0, 0, 0}, data...)
			if (method == 2 || method == 14) && n > 0 {
				checkBoth(t, p, b)
				checkParse(t, 39, append([]byte{byte(method), 1, 0x80, 0xff}, data...), p)
				continue
			}
			want := api.ErrRange
			if method == 2 || method == 14 {
				want = api.ErrLength
			}
			checkBuildError(t, p, want)
			if i < 256 {
				checkParseError(t, 39, b, want)
				checkParseError(t, 39, append([]byte{byte(method), 2, 14, 1}, data...), want)
			}
		}
	}
}

// P6.2, P6.3: every length of a nonce.
func TestNonce(t *testing.T) {
	for n := range 600 {
		data := bytes.Repeat([]byte{byte(n)}, n)
		p := api.Payload{Type: 40, Data: data}
		if 16 <= n && n <= 256 {
			checkBoth(t, p, data)
		} else {
			checkParseError(t, 40, data, api.ErrKey)
			checkBuildError(t, p, api.ErrKey)
		}
	}
	for _, n := range []int{65531, 65532, 65536 + 20, 1 << 20} {
		checkParseError(t, 40, make([]byte, n), api.ErrKey)
		checkBuildError(t, api.Payload{Type: 40, Data: make([]byte, n)}, api.ErrKey)
	}
}

// notifyError returns the error of a notification whose SPI has size bytes, with n bytes behind the fixed part.
func notifyError(protocol, size, n int) api.Errno {
	want := 4
	if protocol < 2 {
		want = 0
	}
	switch {
	case protocol > 3:
		return api.ErrRange
	case size != want:
		return api.ErrSpi
	case size > n:
		return api.ErrLength
	}
	return api.OK
}

// P6.1, P6.2: every protocol and every length of an SPI.
func TestParseNotify(t *testing.T) {
	rest := unhex("010203040506070809")
	for protocol := range 256 {
		for size := range 256 {
			for n := range len(rest) {
				b := append([]byte{byte(protocol), byte(size), 0x40, 4}, rest[:n]...)
				if e := notifyError(protocol, size, n); e != api.OK {
					checkParseError(t, 41, b, e)
					continue
				}
				checkParse(t, 41, b, api.Payload{Notify: api.Notify{Protocol: protocol, Spi: rest[:size], Type: 16388, Data: rest[size:n]}})
			}
		}
	}
}

// P6.1, P6.2, P6.3: every type of a notification.
func TestNotifyTypes(t *testing.T) {
	for kind := range 65536 {
		p := api.Payload{Type: 41, Notify: api.Notify{Protocol: 3, Spi: unhex("01020304"), Type: kind, Data: unhex("05")}}
		checkBoth(t, p, slices.Concat(unhex("0304"), wire.Put(nil, uint64(kind), 2), unhex("0102030405")))
	}
	for _, kind := range others {
		checkBuildError(t, api.Payload{Type: 41, Notify: api.Notify{Type: kind}}, api.ErrRange)
		checkBuildError(t, api.Payload{Type: 41, Notify: api.Notify{Type: kind, Spi: []byte{1}}}, api.ErrRange)
		checkBuildError(t, api.Payload{Type: 41, Notify: api.Notify{Protocol: 3, Type: kind}}, api.ErrRange)
	}
}

// P6.3: every protocol of a notification, and SPIs of any length.
func TestBuildNotify(t *testing.T) {
	for _, protocol := range numbers(300) {
		for _, size := range []int{0, 1, 3, 4, 5, 8, 255, 256, 260, 65536, 65540} {
			p := api.Payload{Type: 41, Notify: api.Notify{Protocol: protocol, Spi: bytes.Repeat([]byte{0xd7}, size), Type: 7, Data: unhex("0102")}}
			switch {
			case protocol < 0 || protocol > 3:
				checkBuildError(t, p, api.ErrRange)
			case protocol < 2 && size == 0:
				checkBoth(t, p, []byte{byte(protocol), 0, 0, 7, 1, 2})
			case protocol >= 2 && size == 4:
				checkBoth(t, p, []byte{byte(protocol), 4, 0, 7, 0xd7, 0xd7, 0xd7, 0xd7, 1, 2})
			default:
				checkBuildError(t, p, api.ErrSpi)
			}
		}
	}
}

// deleteError returns the error of a deletion with n bytes behind the fixed part, if no SPI occurs twice.
func deleteError(protocol, size, count, n int) api.Errno {
	switch {
	case protocol < 1 || protocol > 3:
		return api.ErrRange
	case protocol == 1 && (size != 0 || count != 0), protocol != 1 && size != 4:
		return api.ErrSpi
	case n != size*count:
		return api.ErrLength
	case protocol != 1 && count == 0:
		return api.ErrMissing
	}
	return api.OK
}

// P6.1, P6.2: every protocol, and every length and number of SPIs.
func TestParseDelete(t *testing.T) {
	rest := unhex("010203040506070801020305020203")
	for protocol := range 256 {
		for size := range 256 {
			for _, count := range []int{0, 1, 2, 3, 4, 257, 65535} {
				for n := range len(rest) {
					b := append([]byte{byte(protocol), byte(size), byte(count >> 8), byte(count)}, rest[:n]...)
					if e := deleteError(protocol, size, count, n); e != api.OK {
						checkParseError(t, 42, b, e)
						continue
					}
					d := api.Delete{Protocol: protocol}
					for i := range count {
						d.Spis = append(d.Spis, rest[4*i:4*i+4])
					}
					checkParse(t, 42, b, api.Payload{Delete: d})
				}
			}
		}
	}
}

// spis returns n different SPIs, up to 2^19.
func spis(n int) [][]byte {
	var l [][]byte
	for i := range n {
		l = append(l, wire.Put(nil, uint64(i)<<13, 4))
	}
	return l
}

// deletion returns the bytes of a deletion for ESP.
func deletion(l [][]byte) []byte {
	return append(wire.Put([]byte{3, 4}, uint64(len(l)), 2), bytes.Join(l, nil)...)
}

// P6.1, P6.2, P6.3: many SPIs, up to the number that two bytes can count.
func TestManySpis(t *testing.T) {
	for _, n := range []int{1, 2, 3, 255, 256, 257, 16381} {
		l := spis(n)
		checkBoth(t, api.Payload{Type: 42, Delete: api.Delete{Protocol: 3, Spis: l}}, deletion(l))
	}
	for _, n := range []int{16382, 65535} {
		l := spis(n)
		checkParse(t, 42, deletion(l), api.Payload{Delete: api.Delete{Protocol: 3, Spis: l}})
	}
	for _, n := range []int{16382, 65535, 65536, 65537, 65538, 131072, 131073} {
		checkBuildError(t, api.Payload{Type: 42, Delete: api.Delete{Protocol: 3, Spis: spis(n)}}, api.ErrTooLong)
	}
}

// P6.2, P6.3: an SPI that occurs twice, at any two places; and SPIs that are alike in all bytes but one.
func TestSpiTwice(t *testing.T) {
	for n := 2; n < 12; n++ {
		for i := range n {
			for j := range i {
				l := spis(n)
				l[i] = l[j]
				checkParseError(t, 42, deletion(l), api.ErrTwice)
				for _, protocol := range []int{2, 3} {
					checkBuildError(t, api.Payload{Type: 42, Delete: api.Delete{Protocol: protocol, Spis: l}}, api.ErrTwice)
				}
			}
		}
	}
	zeros := [][]byte{make([]byte, 4), make([]byte, 4)}
	checkParseError(t, 42, deletion(zeros), api.ErrTwice)
	checkBuildError(t, api.Payload{Type: 42, Delete: api.Delete{Protocol: 3, Spis: zeros}}, api.ErrTwice)
	for at := range 4 {
		for bit := range 8 {
			l := [][]byte{unhex("01020304"), unhex("01020304")}
			l[1][at] ^= 1 << bit
			checkBoth(t, api.Payload{Type: 42, Delete: api.Delete{Protocol: 3, Spis: l}}, deletion(l))
		}
	}
	// Ahead of the error of too many bytes.
	for _, n := range []int{16382, 65535, 65536, 65537, 70000} {
		l := spis(n)
		l[n-1] = l[0]
		checkBuildError(t, api.Payload{Type: 42, Delete: api.Delete{Protocol: 2, Spis: l}}, api.ErrTwice)
	}
	l := spis(65535)
	l[65534] = l[65533]
	checkParseError(t, 42, deletion(l), api.ErrTwice)
}

// P6.3: every protocol of a deletion, and SPIs of any length at any place.
func TestBuildDelete(t *testing.T) {
	for _, protocol := range numbers(300) {
		for _, l := range [][][]byte{nil, {}, {nil}, {{}}, {{1, 2, 3, 4}}, {{1, 2, 3}}} {
			if protocol < 1 || protocol > 3 {
				checkBuildError(t, api.Payload{Type: 42, Delete: api.Delete{Protocol: protocol, Spis: l}}, api.ErrRange)
			}
		}
	}
	for _, l := range [][][]byte{nil, {}} {
		checkBoth(t, api.Payload{Type: 42, Delete: api.Delete{Protocol: 1, Spis: l}}, unhex("01000000"))
		checkBuildError(t, api.Payload{Type: 42, Delete: api.Delete{Protocol: 2, Spis: l}}, api.ErrMissing)
		checkBuildError(t, api.Payload{Type: 42, Delete: api.Delete{Protocol: 3, Spis: l}}, api.ErrMissing)
	}
	for _, n := range []int{0, 1, 3, 5, 8, 255, 256, 260, 65540} {
		bad := make([]byte, n)
		for _, protocol := range []int{1, 2, 3} {
			for at := range 4 {
				checkBuildError(t, api.Payload{Type: 42, Delete: api.Delete{Protocol: protocol, Spis: slices.Insert(spis(3), at, bad)}}, api.ErrSpi)
			}
			// Ahead of the error of an SPI that occurs twice, wherever that one is.
			checkBuildError(t, api.Payload{Type: 42, Delete: api.Delete{Protocol: protocol, Spis: [][]byte{{1, 2, 3, 4}, {1, 2, 3, 4}, bad}}}, api.ErrSpi)
			checkBuildError(t, api.Payload{Type: 42, Delete: api.Delete{Protocol: protocol, Spis: [][]byte{bad, bad}}}, api.ErrSpi)
		}
	}
	checkBuildError(t, api.Payload{Type: 42, Delete: api.Delete{Protocol: 1, Spis: make([][]byte, 65536)}}, api.ErrSpi)
	checkBuildError(t, api.Payload{Type: 42, Delete: api.Delete{Protocol: 1, Spis: spis(1)}}, api.ErrSpi)
}

// P6.1, P6.2, P6.3: all types without a further structure, also those that no payload on the wire has.
func TestData(t *testing.T) {
	structured := []int{33, 34, 35, 36, 39, 40, 41, 42, 44, 45}
	for kind := range 256 {
		if slices.Contains(structured, kind) {
			continue
		}
		for _, data := range [][]byte{nil, {0}, {1, 2, 3, 4, 5}, short, long, make([]byte, 65531)} {
			checkParse(t, kind, data, api.Payload{Data: data})
			if kind != 0 {
				checkBuild(t, api.Payload{Type: kind, Data: data}, data)
			}
		}
	}
	for _, kind := range append([]int{0, 256, 257, 256 + 33, 256 + 41}, others...) {
		checkParse(t, kind, short, api.Payload{Data: short})
		checkBuildError(t, api.Payload{Type: kind}, api.ErrRange)
		checkBuildError(t, api.Payload{Type: kind, Data: short}, api.ErrRange)
		checkBuildError(t, api.Payload{Type: kind, Data: make([]byte, 70000)}, api.ErrRange)
	}
	checkParse(t, 43, make([]byte, 70000), api.Payload{Data: make([]byte, 70000)})
}

// P6.3: the longest bodies.
func TestBuildTooLong(t *testing.T) {
	for _, c := range []struct {
		most int // bytes of data that fit
		make func(data []byte) api.Payload
	}{
		{65527, func(data []byte) api.Payload { return api.Payload{Type: 34, Exchange: api.Exchange{Data: data}} }},
		{65527, func(data []byte) api.Payload {
			return api.Payload{Type: 35, Identity: api.Identity{Kind: 11, Data: data}}
		}},
		{65527, func(data []byte) api.Payload {
			return api.Payload{Type: 36, Identity: api.Identity{Kind: 2, Data: data}}
		}},
		{65527, func(data []byte) api.Payload { return api.Payload{Type: 39, Auth: api.Auth{Method: 14, Data: data}} }},
		{65527, func(data []byte) api.Payload { return api.Payload{Type: 41, Notify: api.Notify{Data: data}} }},
		{65523, func(data []byte) api.Payload {
			return api.Payload{Type: 41, Notify: api.Notify{Protocol: 2, Spi: make([]byte, 4), Data: data}}
		}},
		{65531, func(data []byte) api.Payload { return api.Payload{Type: 37, Data: data} }},
		{65531, func(data []byte) api.Payload { return api.Payload{Type: 43, Data: data} }},
		{65531, func(data []byte) api.Payload { return api.Payload{Type: 46, Data: data} }},
		{65531, func(data []byte) api.Payload { return api.Payload{Type: 53, Data: data} }},
		{65531, func(data []byte) api.Payload { return api.Payload{Type: 255, Data: data} }},
	} {
		for _, n := range []int{c.most, c.most - 1, 1} {
			p := c.make(bytes.Repeat([]byte{0xb6}, n))
			r, e := Build(p)
			if e != api.OK || len(r.Body) != 65531-c.most+n {
				t.Errorf("Build with %d bytes = %d bytes, %d", n, len(r.Body), e)
			}
			checkParse(t, p.Type, r.Body, p)
		}
		for _, n := range []int{c.most + 1, c.most + 2, 65536, 65537, 1 << 20} {
			checkBuildError(t, c.make(make([]byte, n)), api.ErrTooLong)
		}
	}
}

// different are payloads of which no two are the same; some differ in a single field or byte.
func different() []api.Payload {
	var l []api.Payload
	for _, s := range samples() {
		s.p.Type = s.kind
		l = append(l, s.p)
	}
	l[2].Selectors = l[1].Selectors
	p := right.Proposals[0]
	for _, q := range [][]api.Proposal{
		nil, {p}, {p, p}, {p, p, p},
		{{Number: 2, Protocol: p.Protocol, Spi: p.Spi, Transforms: p.Transforms}},
		{{Number: 1, Protocol: 2, Spi: p.Spi, Transforms: p.Transforms}},
		{{Number: 1, Protocol: p.Protocol, Spi: unhex("01020305"), Transforms: p.Transforms}},
		{{Number: 1, Protocol: p.Protocol, Spi: unhex("010203"), Transforms: p.Transforms}},
		{{Number: 1, Protocol: p.Protocol, Transforms: p.Transforms}},
		{{Number: 1, Protocol: p.Protocol, Spi: p.Spi}},
		{{Number: 1, Protocol: p.Protocol, Spi: p.Spi, Transforms: []api.Transform{{Type: 2, ID: 28}}}},
		{{Number: 1, Protocol: p.Protocol, Spi: p.Spi, Transforms: []api.Transform{{Type: 1, ID: 29}}}},
		{{Number: 1, Protocol: p.Protocol, Spi: p.Spi, Transforms: []api.Transform{{Type: 1, ID: 28, Key: 1}}}},
		{{Number: 1, Protocol: p.Protocol, Spi: p.Spi, Transforms: []api.Transform{{Type: 1, ID: 28}, {Type: 1, ID: 28}}}},
	} {
		l = append(l, api.Payload{Type: 33, Proposals: q})
	}
	a, b := api.Address{Family: 4, Lo: 1}, api.Address{Family: 4, Lo: 2}
	for _, kind := range []int{44, 45} {
		for _, q := range [][]api.Selector{
			nil, {{}}, {{Lo: a, Hi: b}}, {{Lo: a, Hi: a}}, {{Lo: b, Hi: b}}, {{Protocol: 1, Lo: a, Hi: b}}, {{PortLo: 1, Lo: a, Hi: b}}, {{PortHi: 1, Lo: a, Hi: b}},
			{{Lo: a, Hi: b}, {Lo: a, Hi: a}}, {{Lo: a, Hi: a}, {Lo: a, Hi: b}}, {{Lo: a, Hi: b}, {Lo: a, Hi: b}},
			{{Lo: api.Address{Family: 6, Lo: 1}, Hi: b}}, {{Lo: api.Address{Family: 4, Hi: 1, Lo: 1}, Hi: b}},
		} {
			l = append(l, api.Payload{Type: kind, Selectors: q})
		}
	}
	for _, data := range [][]byte{nil, {9}, {9, 9}, {9, 8}} {
		for _, n := range []int{0, 1, 256, -1} {
			l = append(l,
				api.Payload{Type: 34, Exchange: api.Exchange{Group: n, Data: data}},
				api.Payload{Type: 35, Identity: api.Identity{Kind: n, Data: data}},
				api.Payload{Type: 36, Identity: api.Identity{Kind: n, Data: data}},
				api.Payload{Type: 39, Auth: api.Auth{Method: n, Data: data}},
				api.Payload{Type: 41, Notify: api.Notify{Protocol: n, Type: 9, Data: data}},
				api.Payload{Type: 41, Notify: api.Notify{Protocol: 9, Type: n, Data: data}},
				api.Payload{Type: 41, Notify: api.Notify{Protocol: 9, Type: n, Spi: []byte{9}, Data: data}},
				api.Payload{Type: 42, Delete: api.Delete{Protocol: n, Spis: [][]byte{data}}},
				api.Payload{Type: 42, Delete: api.Delete{Protocol: n, Spis: [][]byte{data, {7}}}},
				api.Payload{Type: 42, Delete: api.Delete{Protocol: n, Spis: [][]byte{{7}, data}}},
			)
		}
		for _, kind := range []int{0, 1, 37, 40, 43, 46, 53, 255, 256, -43} {
			l = append(l, api.Payload{Type: kind, Data: append(data, 1)})
		}
	}
	l = append(l, api.Payload{Type: 42}, api.Payload{Type: 46}, api.Payload{})
	return l
}

// P6.4
func TestSame(t *testing.T) {
	l := different()
	for i, a := range l {
		for j, b := range l {
			if got := Same(a, b); got != (i == j) {
				t.Errorf("Same(%v, %v) = %v", brief(a), brief(b), got)
			}
			if got := Same(joined(a, right), joined(b, right)); got != (i == j) {
				t.Errorf("Same(%v, %v) = %v, with equal other fields", brief(a), brief(b), got)
			}
			// Only the field of the type counts.
			if got := Same(joined(a, right), joined(b, wrong)); got != (i == j) {
				t.Errorf("Same(%v, %v) = %v, with different other fields", brief(a), brief(b), got)
			}
		}
	}
}

// P6.4, R3: a nil list is an empty one.
func TestSameNil(t *testing.T) {
	empty := api.Payload{
		Proposals: []api.Proposal{}, Exchange: api.Exchange{Data: []byte{}}, Identity: api.Identity{Data: []byte{}}, Auth: api.Auth{Data: []byte{}},
		Notify: api.Notify{Spi: []byte{}, Data: []byte{}}, Delete: api.Delete{Spis: [][]byte{}}, Selectors: []api.Selector{}, Data: []byte{},
	}
	for kind := -1; kind < 258; kind++ {
		a, b := api.Payload{Type: kind}, empty
		b.Type = kind
		if !Same(a, b) || !Same(b, a) || !Same(a, a) || !Same(b, b) {
			t.Errorf("Same of two empty payloads of the type %d = false", kind)
		}
	}
	for _, c := range [][2]api.Payload{
		{{Type: 33, Proposals: []api.Proposal{{}}}, {Type: 33, Proposals: []api.Proposal{{Spi: []byte{}, Transforms: []api.Transform{}}}}},
		{{Type: 42, Delete: api.Delete{Spis: [][]byte{nil}}}, {Type: 42, Delete: api.Delete{Spis: [][]byte{{}}}}},
	} {
		if !Same(c[0], c[1]) || !Same(c[1], c[0]) {
			t.Errorf("Same(%v, %v) = false", c[0], c[1])
		}
	}
}

// plain returns a right body with 0 for what does not count.
func plain(kind int, b []byte) []byte {
	out := bytes.Clone(b)
	switch kind {
	case 33:
		for at := 0; at < len(out); {
			out[at+1] = 0
			end := at + int(out[at+2])<<8 + int(out[at+3])
			for at += 8 + int(out[at+6]); at < end; at += int(out[at+3]) {
				out[at+1], out[at+5] = 0, 0
			}
		}
	case 34:
		clear(out[2:4])
	case 35, 36, 39, 44, 45:
		clear(out[1:4])
	}
	return out
}

// checkAgain parses a body; if it is accepted, it has to be built again and read again.
func checkAgain(t *testing.T, kind int, b []byte) bool {
	t.Helper()
	p, e := Parse(api.Raw{Type: kind, Body: b})
	if e != api.OK {
		checkParseError(t, kind, b, e)
		return false
	}
	want := plain(kind, b)
	checkBuild(t, p, want)
	checkParse(t, kind, want, p)
	if q, _ := Parse(api.Raw{Type: kind, Body: want}); !Same(p, q) {
		t.Errorf("Parse of Build(%v) = %v", p, q)
	}
	return true
}

// P6.5: bodies that are changed at a few places are either refused or built again.
func TestBuildOfParse(t *testing.T) {
	r := rand.New(rand.NewSource(6))
	l := samples()
	accepted := 0
	for range 100000 {
		s := l[r.Intn(len(l))]
		b := unhex(s.hex)
		for range r.Intn(4) {
			if len(b) > 0 {
				b[r.Intn(len(b))] = byte(r.Intn(256) >> r.Intn(8))
			}
		}
		switch r.Intn(8) {
		case 0:
			b = b[:r.Intn(len(b)+1)]
		case 1:
			b = append(b, byte(r.Intn(3)))
		}
		if checkAgain(t, s.kind, b) {
			accepted++
		}
	}
	if accepted < 40000 {
		t.Errorf("only %d were accepted", accepted)
	}
}

// R1, P6.5: Parse returns for any bytes of any type; with few different bytes, some of them are right.
func TestParseAnything(t *testing.T) {
	r := rand.New(rand.NewSource(7))
	for range 200000 {
		b := make([]byte, r.Intn(28))
		for i := range b {
			b[i] = []byte{0, 0, 1, 2, 3, 4, 5, 7, 8, 11, 14, 16}[r.Intn(12)]
		}
		checkAgain(t, 32+r.Intn(16), b)
	}
}

// R1: no function panics on payloads that are not as they should be.
func TestAnyPayloadReturns(t *testing.T) {
	r := rand.New(rand.NewSource(8))
	numbers := []int{math.MinInt, -1, 0, 1, 2, 3, 4, 11, 14, 255, 256, 65535, 65536, math.MaxInt}
	number := func() int { return numbers[r.Intn(len(numbers))] }
	data := func() []byte { return make([]byte, []int{0, 1, 4, 16, 300}[r.Intn(5)]) }
	anything := func() api.Payload {
		return api.Payload{
			Type:      []int{33, 34, 35, 36, 39, 40, 41, 42, 44, 45, number()}[r.Intn(11)],
			Proposals: make([]api.Proposal, r.Intn(3)), Exchange: api.Exchange{Group: number(), Data: data()}, Identity: api.Identity{Kind: number(), Data: data()},
			Auth: api.Auth{Method: number(), Data: data()}, Notify: api.Notify{Protocol: number(), Spi: data(), Type: number(), Data: data()},
			Delete: api.Delete{Protocol: number(), Spis: [][]byte{data(), data()}[:r.Intn(3)]}, Selectors: make([]api.Selector, r.Intn(3)), Data: data(),
		}
	}
	for range 100000 {
		a, b := anything(), anything()
		Same(a, b)
		raw, e := Build(a)
		if e != api.OK {
			checkBuildError(t, a, e)
			continue
		}
		p, e := Parse(raw)
		if e != api.OK || !Same(a, p) || !Same(p, a) {
			t.Errorf("Parse of Build(%v) = %v, %d", brief(a), brief(p), e)
		}
	}
}

// spoil overwrites all lists of a payload, and what can be appended to them.
func spoil(p api.Payload) {
	for _, q := range p.Proposals {
		p.Delete.Spis = append(p.Delete.Spis, q.Spi)
		clear(q.Transforms[:cap(q.Transforms)])
	}
	for _, b := range lists(p) {
		b = b[:cap(b)]
		for i := range b {
			b[i] = 0x77
		}
	}
	clear(p.Selectors[:cap(p.Selectors)])
	clear(p.Proposals)
}

// R2: the body stays as it is, with its spare capacity, and no two lists of a result share memory.
func TestBodyStays(t *testing.T) {
	for _, s := range samples() {
		b := unhex(s.hex)
		whole := append(bytes.Clone(b), bytes.Repeat([]byte{0xa5}, 64)...)
		kept := bytes.Clone(whole)
		p, _ := Parse(api.Raw{Type: s.kind, Body: whole[:len(b)]})
		for i, spi := range p.Delete.Spis {
			_ = append(spi, 0x99, 0x99)
			if i > 0 && !bytes.Equal(p.Delete.Spis[i-1], s.p.Delete.Spis[i-1]) {
				t.Errorf("the SPIs of %s share memory", s.hex)
			}
		}
		_ = append(p.Notify.Spi, 0x99, 0x99)
		s.p.Type = s.kind
		if !same(p, s.p) {
			t.Errorf("lists of %s share memory", s.hex)
		}
		spoil(p)
		if !bytes.Equal(whole, kept) {
			t.Errorf("the body of the type %d became %x", s.kind, whole)
		}
	}
}

// R2: payloads stay as they are, with the spare capacity of their lists.
func TestPayloadStays(t *testing.T) {
	for i, s := range samples() {
		p, fresh := s.p, samples()[i].p
		p.Type, fresh.Type = s.kind, s.kind
		var roomy [][]byte
		room := func(b *[]byte) {
			whole := append(bytes.Clone(*b), bytes.Repeat([]byte{0xa5}, 64)...)
			*b = whole[:len(*b)]
			roomy = append(roomy, whole)
		}
		for _, b := range []*[]byte{&p.Data, &p.Exchange.Data, &p.Identity.Data, &p.Auth.Data, &p.Notify.Spi, &p.Notify.Data} {
			room(b)
		}
		for i := range p.Delete.Spis {
			room(&p.Delete.Spis[i])
		}
		r, e := Build(p)
		if !Same(p, fresh) || !bytes.Equal(r.Body, unhex(s.plain)) || e != api.OK {
			t.Errorf("Build(%v) = %x, %d", p, r.Body, e)
		}
		clear(r.Body[:cap(r.Body)])
		if !same(p, fresh) {
			t.Errorf("the payload became %v", p)
		}
		for _, b := range roomy {
			if !bytes.Equal(b[len(b)-64:], bytes.Repeat([]byte{0xa5}, 64)) {
				t.Errorf("the spare capacity became %x", b)
			}
		}
	}
}
