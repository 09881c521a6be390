package header

import (
	"bytes"
	"math"
	"testing"

	"ipsecgate/api"
)

// sample is a header of version 2.0 as P2.1 lays it out: every byte of a number is a different one.
func sample() []byte {
	return []byte{
		0x81, 0x82, 0x83, 0x84, 0x85, 0x86, 0x87, 0x88, // SPI of the initiator
		0x91, 0x92, 0x93, 0x94, 0x95, 0x96, 0x97, 0x98, // SPI of the responder
		0xf5, 0x20, 0x24, 0x08, // first payload, version, exchange, flags
		0xa1, 0xa2, 0xa3, 0xa4, // message ID
		0x00, 0x00, 0x00, 0x1c, // length
	}
}

var parsed = api.Header{
	Initiator: 0x8182838485868788,
	Responder: 0x9192939495969798,
	Next:      0xf5,
	Exchange:  api.ExchangeChild,
	Flags:     api.FlagInitiator,
	ID:        0xa1a2a3a4,
}

// change returns the sample with other bytes from the offset at on.
func change(at int, with ...byte) []byte {
	b := sample()
	copy(b[at:], with)
	return b
}

// long returns the sample as the header of a message of n bytes, which all but the header are 0xee.
func long(n int) []byte {
	b := append(change(24, byte(n>>24), byte(n>>16), byte(n>>8), byte(n)), bytes.Repeat([]byte{0xee}, n)...)
	return b[:n]
}

// with returns the parsed header after a change.
func with(change func(h *api.Header)) api.Header {
	h := parsed
	change(&h)
	return h
}

func checkParse(t *testing.T, b []byte, want api.Header, e api.Errno) {
	t.Helper()
	if h, got := Parse(b); h != want || got != e {
		t.Errorf("Parse(%x) = %+v, %d, want %+v, %d", b[:min(len(b), size)], h, got, want, e)
	}
}

// P2.1, P2.2
func TestParse(t *testing.T) {
	checkParse(t, sample(), parsed, api.OK)
	checkParse(t, change(0, 0, 0, 0, 0, 0, 0, 0, 1), with(func(h *api.Header) { h.Initiator = 1 }), api.OK)
	checkParse(t, change(0, 0xff, 0xff, 0xff, 0xff, 0xff, 0xff, 0xff, 0xff), with(func(h *api.Header) { h.Initiator = math.MaxUint64 }), api.OK)
	checkParse(t, change(8, 1, 0, 0, 0, 0, 0, 0, 0), with(func(h *api.Header) { h.Responder = 1 << 56 }), api.OK)
	checkParse(t, change(16, 0), with(func(h *api.Header) { h.Next = 0 }), api.OK)
	checkParse(t, change(16, 255), with(func(h *api.Header) { h.Next = 255 }), api.OK)
	checkParse(t, change(20, 0, 0, 0, 0), with(func(h *api.Header) { h.ID = 0 }), api.OK)
	checkParse(t, change(20, 255, 255, 255, 255), with(func(h *api.Header) { h.ID = math.MaxUint32 }), api.OK)
	for exchange := api.ExchangeAuth; exchange <= api.ExchangeInform; exchange++ {
		checkParse(t, change(18, byte(exchange)), with(func(h *api.Header) { h.Exchange = exchange }), api.OK)
	}
	first := change(18, api.ExchangeInit, 0, 0, 0, 0, 0)
	checkParse(t, first, with(func(h *api.Header) { h.Exchange, h.Flags, h.ID = api.ExchangeInit, 0, 0 }), api.OK)
	clear(first[8:16])
	checkParse(t, first, with(func(h *api.Header) { h.Exchange, h.Flags, h.ID, h.Responder = api.ExchangeInit, 0, 0, 0 }), api.OK)
}

// P2.2
func TestParseShort(t *testing.T) {
	checkParse(t, nil, api.Header{}, api.ErrShort)
	for n := range size {
		checkParse(t, sample()[:n], api.Header{}, api.ErrShort)
		// Neither another version nor another length comes first, also where its bytes are there.
		checkParse(t, change(17, 0x30)[:n], api.Header{}, api.ErrShort)
		checkParse(t, change(24, 0, 0, 0, byte(n))[:n], api.Header{}, api.ErrShort)
	}
	checkParse(t, change(0, make([]byte, 27)...)[:27], api.Header{}, api.ErrShort)
}

// P2.2
func TestParseVersion(t *testing.T) {
	for v := range 256 {
		b := change(17, byte(v))
		if v/16 == 2 {
			checkParse(t, b, parsed, api.OK)
			continue
		}
		checkParse(t, b, api.Header{}, api.ErrVersion)
		// It comes ahead of the length and of the fields.
		b[27], b[18] = 29, 0
		clear(b[:16])
		checkParse(t, b, api.Header{}, api.ErrVersion)
	}
}

// P2.2
func TestParseLength(t *testing.T) {
	for _, length := range [][]byte{
		{0, 0, 0, 0}, {0, 0, 0, 27}, {0, 0, 0, 29}, {0, 0, 1, 28}, {0, 1, 0, 28}, {1, 0, 0, 28}, {0x80, 0, 0, 28}, {255, 255, 255, 255},
	} {
		checkParse(t, change(24, length...), api.Header{}, api.ErrLength)
	}
	for _, n := range []int{28, 29, 57, 255, 256, 0x1234, api.MaxMessage, api.MaxMessage + 1, 1<<16 + 28} {
		b := long(n)
		checkParse(t, b, parsed, api.OK)
		checkParse(t, append(b, 0), api.Header{}, api.ErrLength)
		if n > size {
			checkParse(t, b[:n-1], api.Header{}, api.ErrLength)
		}
	}
	// It comes ahead of what Check finds.
	b := change(24, 0, 0, 0, 29)
	clear(b[:8])
	checkParse(t, b, api.Header{}, api.ErrLength)
}

// P2.2
func TestParseFlags(t *testing.T) {
	for flags := range 256 {
		want := with(func(h *api.Header) { h.Flags = flags & (8 | 16 | 32) })
		checkParse(t, change(19, byte(flags)), want, api.OK)
	}
}

// P2.2, P2.3: what Check finds, with nothing of the header.
func TestParseChecks(t *testing.T) {
	zeros := make([]byte, 8)
	checkParse(t, change(0, zeros...), api.Header{}, api.ErrSpi)
	checkParse(t, change(8, zeros...), api.Header{}, api.ErrSpi)
	checkParse(t, change(18, api.ExchangeInit), api.Header{}, api.ErrOrder)
	checkParse(t, change(18, api.ExchangeInit, 0, 0, 0, 0, 1), api.Header{}, api.ErrOrder)
	for exchange := range 256 {
		if exchange < api.ExchangeInit || exchange > api.ExchangeInform {
			checkParse(t, change(18, byte(exchange)), api.Header{}, api.ErrRange)
		}
	}
}

// P2.3
func TestCheck(t *testing.T) {
	first := api.Header{Initiator: 1, Exchange: api.ExchangeInit}
	for i, h := range []api.Header{
		parsed,
		first,
		{Initiator: 1, Responder: 2, Exchange: api.ExchangeInit, Flags: 56, Next: 255},
		{Initiator: 1, Responder: 1, Exchange: api.ExchangeAuth},
		{Initiator: math.MaxUint64, Responder: math.MaxUint64, Exchange: api.ExchangeInform, Flags: 56, Next: 255, ID: math.MaxUint32},
	} {
		if e := Check(h); e != api.OK {
			t.Errorf("%d: Check = %d", i, e)
		}
	}
	for flags := range 512 {
		h := with(func(h *api.Header) { h.Flags = flags })
		want := api.ErrRange
		if flags == flags&(8|16|32) {
			want = api.OK
		}
		if e := Check(h); e != want {
			t.Errorf("Check of the flags %d = %d, want %d", flags, e, want)
		}
	}
}

// P2.3
func TestCheckRange(t *testing.T) {
	for _, v := range []int{math.MinInt, -1, 256, 256 + api.PayloadSA, 1 << 32, math.MaxInt} {
		if e := Check(with(func(h *api.Header) { h.Next = v })); e != api.ErrRange {
			t.Errorf("Check of the next payload %d = %d", v, e)
		}
	}
	for _, v := range []int{math.MinInt, -1, 0, 33, 38, 256 + api.ExchangeAuth, 1<<32 + api.ExchangeAuth, math.MaxInt} {
		if e := Check(with(func(h *api.Header) { h.Exchange = v })); e != api.ErrRange {
			t.Errorf("Check of the exchange %d = %d", v, e)
		}
	}
	for _, v := range []int{math.MinInt, -1, 1 << 8, 1<<32 | 8, math.MaxInt, -56} {
		if e := Check(with(func(h *api.Header) { h.Flags = v })); e != api.ErrRange {
			t.Errorf("Check of the flags %d = %d", v, e)
		}
	}
}

// P2.3: which error comes first.
func TestCheckOrder(t *testing.T) {
	for i, c := range []struct {
		h api.Header
		e api.Errno
	}{
		{api.Header{}, api.ErrSpi},
		{api.Header{Responder: 1, Exchange: api.ExchangeAuth}, api.ErrSpi},
		{api.Header{Exchange: api.ExchangeInit}, api.ErrSpi},
		{api.Header{Exchange: 33, Next: 256, Flags: 1}, api.ErrSpi},
		{api.Header{Exchange: api.ExchangeInit, ID: 1}, api.ErrSpi},
		{api.Header{Initiator: 1, Exchange: 38}, api.ErrRange},
		{api.Header{Initiator: 1, Exchange: api.ExchangeAuth, Next: -1}, api.ErrRange},
		{api.Header{Initiator: 1, Exchange: api.ExchangeAuth, Flags: 64}, api.ErrRange},
		{api.Header{Initiator: 1, Exchange: api.ExchangeInit, ID: 1, Next: 256}, api.ErrRange},
		{api.Header{Initiator: 1, Exchange: api.ExchangeInit, ID: 1, Flags: 4}, api.ErrRange},
		{api.Header{Initiator: 1, Exchange: api.ExchangeAuth}, api.ErrSpi},
		{api.Header{Initiator: 1, Exchange: api.ExchangeAuth, ID: 1}, api.ErrSpi},
		{api.Header{Initiator: 1, Exchange: api.ExchangeChild}, api.ErrSpi},
		{api.Header{Initiator: 1, Exchange: api.ExchangeInform}, api.ErrSpi},
		{api.Header{Initiator: 1, Exchange: api.ExchangeInit, ID: 1}, api.ErrOrder},
		{api.Header{Initiator: 1, Responder: 1, Exchange: api.ExchangeInit, ID: math.MaxUint32}, api.ErrOrder},
	} {
		if e := Check(c.h); e != c.e {
			t.Errorf("%d: Check = %d, want %d", i, e, c.e)
		}
	}
}

// P2.1, P2.4
func TestBuild(t *testing.T) {
	if b, e := Build(parsed, size); !bytes.Equal(b, sample()) || e != api.OK {
		t.Errorf("Build = %x, %d", b, e)
	}
	for _, n := range []int{29, 255, 256, 0x1234, api.MaxMessage - 1, api.MaxMessage} {
		if b, e := Build(parsed, n); !bytes.Equal(b, change(26, byte(n>>8), byte(n))) || e != api.OK {
			t.Errorf("Build of %d bytes = %x, %d", n, b, e)
		}
	}
	h := api.Header{Initiator: 1, Exchange: api.ExchangeInit, Flags: 56}
	want := append(make([]byte, 7), 1, 0, 0, 0, 0, 0, 0, 0, 0, 0, 0x20, 34, 56, 0, 0, 0, 0, 0, 0, 0, 28)
	if b, e := Build(h, size); !bytes.Equal(b, want) || e != api.OK {
		t.Errorf("Build of the first = %x, %d", b, e)
	}
}

// P2.4
func TestBuildErrors(t *testing.T) {
	for _, n := range []int{math.MinInt, -1, 0, 27, api.MaxMessage + 1, 1<<32 + 28, math.MaxInt} {
		if b, e := Build(parsed, n); len(b) != 0 || e != api.ErrRange {
			t.Errorf("Build of %d bytes = %x, %d", n, b, e)
		}
	}
	for i, c := range []struct {
		h api.Header
		e api.Errno
	}{
		{api.Header{}, api.ErrSpi},
		{with(func(h *api.Header) { h.Responder = 0 }), api.ErrSpi},
		{with(func(h *api.Header) { h.Exchange = api.ExchangeInit }), api.ErrOrder},
		{with(func(h *api.Header) { h.Flags = 1 }), api.ErrRange},
	} {
		// The error of Check comes ahead of that of the length.
		for _, n := range []int{0, size, math.MaxInt} {
			if b, e := Build(c.h, n); len(b) != 0 || e != c.e {
				t.Errorf("%d: Build of %d bytes = %x, %d, want %d", i, n, b, e, c.e)
			}
		}
	}
}

// P2.5
func TestRequest(t *testing.T) {
	for flags := -64; flags < 512; flags++ {
		if got := Request(api.Header{Flags: flags}); got != (flags&32 == 0) {
			t.Errorf("Request of the flags %d = %v", flags, got)
		}
	}
	reply := with(func(h *api.Header) { h.Flags = api.FlagResponse })
	if Request(reply) || !Request(parsed) {
		t.Error("Request with other fields")
	}
}

// P2.6
func TestParseOfBuild(t *testing.T) {
	for _, h := range []api.Header{
		parsed,
		{Initiator: 1, Exchange: api.ExchangeInit},
		{Initiator: 5, Responder: 1 << 63, Exchange: api.ExchangeInform, Flags: 56, Next: 255, ID: math.MaxUint32},
	} {
		for _, n := range []int{28, 29, 300, api.MaxMessage} {
			b, e := Build(h, n)
			if e != api.OK {
				t.Fatalf("Build = %d", e)
			}
			checkParse(t, append(b, make([]byte, n-size)...), h, api.OK)
		}
	}
}

// P2.6
func TestBuildOfParse(t *testing.T) {
	for _, version := range []byte{0x20, 0x21, 0x2f} {
		for flags := range 256 {
			b := long(api.MaxMessage)
			b[17], b[19] = version, byte(flags)
			h, e := Parse(b)
			if e != api.OK {
				t.Fatalf("Parse = %d", e)
			}
			b[17], b[19] = 0x20, byte(flags&56)
			if again, e := Build(h, len(b)); !bytes.Equal(again, b[:size]) || e != api.OK {
				t.Fatalf("Build = %x, %d, want %x", again, e, b[:size])
			}
		}
	}
}

// R1, R2: Parse returns for any bytes, and leaves them and what is behind them.
func TestParseLeavesArgument(t *testing.T) {
	whole := append(sample(), bytes.Repeat([]byte{0xa5}, 40)...)
	kept := bytes.Clone(whole)
	for n := range len(whole) {
		first, e := Parse(whole[:n])
		if again, f := Parse(whole[:n:n]); again != first || f != e {
			t.Errorf("Parse of %d bytes depends on what is behind them", n)
		}
	}
	if !bytes.Equal(whole, kept) {
		t.Errorf("the argument became %x", whole)
	}
}

// R2: results of Build are memory of their own.
func TestBuildSharesNothing(t *testing.T) {
	first, _ := Build(parsed, size)
	second, _ := Build(parsed, size)
	first[0] = 0
	_ = append(first, 1, 2, 3)
	if !bytes.Equal(second, sample()) {
		t.Errorf("the other result became %x", second)
	}
}
