package selector

import (
	"bytes"
	"math"
	"math/rand"
	"slices"
	"testing"

	"ipsecgate/api"
	"ipsecgate/wire"
)

const top32, top64 = math.MaxUint32, math.MaxUint64

// unhex returns the bytes of texts that are written by hand.
func unhex(texts ...string) []byte {
	var out []byte
	for _, s := range texts {
		b, e := wire.Unhex(s)
		if e != api.OK {
			panic(s)
		}
		out = append(out, b...)
	}
	return out
}

func four(lo uint64) api.Address { return api.Address{Family: 4, Lo: lo} }

func six(hi, lo uint64) api.Address { return api.Address{Family: 6, Hi: hi, Lo: lo} }

// sel returns a selector of the family 4.
func sel(protocol, from, to int, lo, hi uint64) api.Selector {
	return api.Selector{Protocol: protocol, PortLo: from, PortHi: to, Lo: four(lo), Hi: four(hi)}
}

// between returns a selector of all protocols and ports.
func between(lo, hi api.Address) api.Selector {
	return api.Selector{PortHi: 65535, Lo: lo, Hi: hi}
}

func checkParse(t *testing.T, b []byte, want []api.Selector) {
	t.Helper()
	if l, e := Parse(b); !slices.Equal(l, want) || e != api.OK {
		t.Errorf("Parse(%.100x) = %v, %d, want %v", b, l, e, want)
	}
}

func checkParseError(t *testing.T, b []byte, want api.Errno) {
	t.Helper()
	if l, e := Parse(b); len(l) != 0 || e != want {
		t.Errorf("Parse(%.100x) = %d selectors, %d, want the error %d", b, len(l), e, want)
	}
}

func checkBuild(t *testing.T, l []api.Selector, want []byte) {
	t.Helper()
	if b, e := Build(l); !bytes.Equal(b, want) || e != api.OK {
		t.Errorf("Build(%.200v) = %x, %d, want %x", l, b, e, want)
	}
}

func checkBuildError(t *testing.T, l []api.Selector, want api.Errno) {
	t.Helper()
	if b, e := Build(l); len(b) != 0 || e != want {
		t.Errorf("Build(%.200v) = %d bytes, %d, want the error %d", l, len(b), e, want)
	}
}

// checkOne fails unless Check returns the error, and Build for the selector alone and behind another one.
func checkOne(t *testing.T, s api.Selector, want api.Errno) {
	t.Helper()
	if e := Check(s); e != want {
		t.Errorf("Check(%v) = %d, want %d", s, e, want)
	}
	for _, l := range [][]api.Selector{{s}, {sel(0, 0, 0, 0, 0), s}} {
		b, e := Build(l)
		if e != want || want != api.OK && len(b) != 0 {
			t.Errorf("Build(%v) = %x, %d, want the error %d", l, b, e, want)
		}
		if want == api.OK {
			checkParse(t, b, l)
		}
	}
}

// The body both has a selector of each family; all numbers differ in all their bytes, and no byte that does not count is 0.
var (
	one4 = unhex("07060010", "01020304", "0a0b0c0d", "0a1b1c1d")
	one6 = unhex("08f10028", "ffff0000", "2021222324252627", "28292a2b2c2d2e2f", "3031323334353637", "38393a3b3c3d3e3f")
	both = slices.Concat(unhex("02a1a2a3"), one4, one6)

	parsed4 = sel(6, 0x0102, 0x0304, 0x0a0b0c0d, 0x0a1b1c1d)
	parsed6 = api.Selector{Protocol: 0xf1, PortLo: 65535, Lo: six(0x2021222324252627, 0x28292a2b2c2d2e2f), Hi: six(0x3031323334353637, 0x38393a3b3c3d3e3f)}
)

// body returns a body with that number in front.
func body(count byte, l ...[]byte) []byte {
	return append([]byte{count, 0, 0, 0}, bytes.Join(l, nil)...)
}

// P5.1
func TestLess(t *testing.T) {
	// Each address comes ahead of all behind it; the last ones are not valid.
	ordered := []api.Address{
		{Family: math.MinInt, Hi: 9, Lo: 9}, {Family: -6, Hi: 5}, {}, {Lo: 1}, {Hi: 1},
		four(0), four(1), four(2), four(1 << 31), four(top32 - 1), four(top32), four(1 << 32), four(top64), {Family: 4, Hi: 1}, {Family: 4, Hi: top64},
		{Family: 5}, six(0, 0), six(0, 1), six(0, 1<<63), six(0, top64), six(1, 0), six(1, 1), six(1, top64), six(2, 0), six(1<<63-1, 9), six(1<<63, 5), six(top64, 0), six(top64, top64),
		{Family: 7}, {Family: 1 << 32}, {Family: math.MaxInt},
	}
	for i, a := range ordered {
		for j, b := range ordered {
			if got := Less(a, b); got != (i < j) {
				t.Errorf("Less(%v, %v) = %v", a, b, got)
			}
		}
	}
}

// P5.1
func TestValid(t *testing.T) {
	for _, a := range []api.Address{four(0), four(1), four(0x0a000001), four(top32), six(0, 0), six(0, 1), six(1, 0), six(0, 1<<32), six(top64, top64)} {
		if !Valid(a) {
			t.Errorf("Valid(%v) = false", a)
		}
	}
	for _, a := range []api.Address{four(1 << 32), four(1<<32 + 1), four(1 << 63), four(top64), {Family: 4, Hi: 1}, {Family: 4, Hi: 1 << 63, Lo: 1}, {Family: 4, Hi: top64, Lo: top64}} {
		if Valid(a) {
			t.Errorf("Valid(%v) = true", a)
		}
	}
	for _, family := range []int{0, 1, 2, 3, 5, 7, 8, 41, -4, -6, 256 + 4, 256 + 6, 1<<32 + 4, math.MinInt, math.MaxInt} {
		if Valid(api.Address{Family: family}) || Valid(api.Address{Family: family, Hi: 1, Lo: 1}) {
			t.Errorf("the family %d is valid", family)
		}
	}
}

// P5.2, P5.4: addresses.
func TestCheckFamily(t *testing.T) {
	checkOne(t, between(four(0), four(top32)), api.OK)
	checkOne(t, between(four(7), four(7)), api.OK)
	checkOne(t, between(six(0, 0), six(top64, top64)), api.OK)
	checkOne(t, between(six(7, 8), six(7, 8)), api.OK)
	checkOne(t, api.Selector{}, api.ErrFamily)
	checkOne(t, between(four(1), six(0, 1)), api.ErrFamily)
	checkOne(t, between(six(0, 1), four(1)), api.ErrFamily)
	for _, bad := range []api.Address{{}, {Family: 5}, {Family: -4}, four(1 << 32), {Family: 4, Hi: 1}, {Family: 8}} {
		checkOne(t, between(bad, four(5)), api.ErrFamily)
		checkOne(t, between(four(5), bad), api.ErrFamily)
		checkOne(t, between(bad, six(1, 5)), api.ErrFamily)
		checkOne(t, between(six(0, 0), bad), api.ErrFamily)
		checkOne(t, between(bad, bad), api.ErrFamily)
	}
}

// P5.2, P5.4: ranges of addresses, protocols and ports.
func TestCheckRange(t *testing.T) {
	for _, p := range [][2]api.Address{{four(6), four(5)}, {four(1), four(0)}, {four(top32), four(0)}, {six(0, 6), six(0, 5)}, {six(1, 0), six(0, top64)}, {six(2, 5), six(1, 6)}, {six(1<<63, 0), six(1, 0)}} {
		checkOne(t, between(p[0], p[1]), api.ErrRange)
		checkOne(t, between(p[1], p[0]), api.OK)
	}
	for protocol := range 256 {
		checkOne(t, sel(protocol, 0, 65535, 5, 6), api.OK)
	}
	for _, protocol := range []int{-1, 256, 257, 262, 1 << 32, 1<<32 + 6, math.MinInt, math.MaxInt} {
		checkOne(t, sel(protocol, 0, 65535, 5, 6), api.ErrRange)
	}
	for _, p := range [][2]int{{65535, 0}, {0, 65535}, {0, 0}, {0, 1}, {1, 1}, {255, 256}, {80, 90}, {1, 65535}, {0, 65534}, {65534, 65535}, {65535, 65535}} {
		checkOne(t, sel(6, p[0], p[1], 5, 6), api.OK)
	}
	for _, p := range [][2]int{
		{1, 0}, {65534, 0}, {65535, 1}, {65535, 65534}, {81, 80}, {256, 255}, {65536, 0}, {65535, -1}, {api.Opaque, api.Opaque}, {-1, 0}, {-1, 65535}, {0, -1},
		{0, 65536}, {65536, 65536}, {65535, 65536}, {1 << 32, 1 << 32}, {0, 1<<32 + 5}, {65535, 1 << 32}, {65535 + 1<<32, 0}, {math.MinInt, 0}, {0, math.MaxInt}, {math.MinInt, math.MaxInt}, {math.MaxInt, math.MinInt},
	} {
		checkOne(t, sel(6, p[0], p[1], 5, 6), api.ErrRange)
	}
}

// P5.2, P5.4, R4: the first error of the first selector that has one.
func TestCheckOrder(t *testing.T) {
	fine, family, rng := sel(6, 80, 90, 5, 6), between(four(9), six(0, 1)), sel(0, 0, 65535, 6, 5)
	checkOne(t, sel(999, 9, 1, 1<<32, 0), api.ErrFamily)
	checkOne(t, api.Selector{Protocol: -1, PortLo: 9, PortHi: 1, Lo: six(0, 1), Hi: four(1)}, api.ErrFamily)
	checkBuildError(t, []api.Selector{fine, family, rng}, api.ErrFamily)
	checkBuildError(t, []api.Selector{fine, rng, family}, api.ErrRange)
	checkBuildError(t, []api.Selector{family, fine, rng}, api.ErrFamily)
	checkBuildError(t, []api.Selector{rng, fine, family}, api.ErrRange)
}

// P5.3, P5.4
func TestParse(t *testing.T) {
	checkParse(t, both, []api.Selector{parsed4, parsed6})
	checkParse(t, body(1, one4), []api.Selector{parsed4})
	checkParse(t, body(1, one6), []api.Selector{parsed6})
	checkParse(t, body(3, one6, one6, one4), []api.Selector{parsed6, parsed6, parsed4})
	checkParse(t, unhex("01000000", "07000010", "0000ffff", "00000000", "ffffffff"), []api.Selector{between(four(0), four(top32))})
	checkParse(t, unhex("01000000", "08000028", "0000ffff", "00000000000000000000000000000000", "ffffffffffffffffffffffffffffffff"), []api.Selector{between(six(0, 0), six(top64, top64))})
	checkParse(t, unhex("01000000", "07ff0010", "ffffffff", "80000000", "80000000"), []api.Selector{sel(255, 65535, 65535, 1<<31, 1<<31)})
}

// P5.3, P5.4: what each value of each byte of a selector changes.
func TestParseEachByte(t *testing.T) {
	for at := range one4 {
		for v := range 256 {
			checkByte(t, one4, at, byte(v), kind4)
		}
	}
	for at := range one6 {
		for v := range 256 {
			checkByte(t, one6, at, byte(v), kind6)
		}
	}
}

// checkByte parses a selector with another value of one byte.
func checkByte(t *testing.T, whole []byte, at int, v, kind byte) {
	t.Helper()
	b := bytes.Clone(whole)
	b[at] = v
	if at == 0 && v != kind || (at == 2 || at == 3) && v != whole[at] {
		checkParseError(t, body(1, b), api.ErrSyntax)
		return
	}
	s := readByHand(b)
	if e := Check(s); e != api.OK {
		checkParseError(t, body(1, b), e)
		return
	}
	checkParse(t, body(1, b), []api.Selector{s})
}

// readByHand returns what the bytes of a right form say.
func readByHand(b []byte) api.Selector {
	join := func(l []byte) (v uint64) {
		for _, x := range l {
			v = 256*v + uint64(x)
		}
		return v
	}
	s := api.Selector{Protocol: int(b[1]), PortLo: int(join(b[4:6])), PortHi: int(join(b[6:8]))}
	if b[0] == 7 {
		s.Lo, s.Hi = four(join(b[8:12])), four(join(b[12:16]))
	} else {
		s.Lo, s.Hi = six(join(b[8:16]), join(b[16:24])), six(join(b[24:32]), join(b[32:40]))
	}
	return s
}

// P5.3: three bytes of the head do not count.
func TestParseReserved(t *testing.T) {
	for at := 1; at < 4; at++ {
		for v := range 256 {
			b := bytes.Clone(both)
			b[at] = byte(v)
			checkParse(t, b, []api.Selector{parsed4, parsed6})
		}
	}
}

// P5.4: the number of selectors has one right value.
func TestParseCount(t *testing.T) {
	for n := range 256 {
		b := bytes.Clone(both)
		b[0] = byte(n)
		empty := b[:4:4]
		switch {
		case n == 0:
			checkParseError(t, b, api.ErrMissing)
			checkParseError(t, empty, api.ErrMissing)
		case n > api.MaxSelectors:
			checkParseError(t, b, api.ErrTooMany)
			checkParseError(t, empty, api.ErrTooMany)
			checkParseError(t, body(byte(n), bytes.Repeat(one4, n)), api.ErrTooMany)
		case n != 2:
			checkParseError(t, b, api.ErrSyntax)
			checkParseError(t, empty, api.ErrSyntax)
		}
	}
	for n := 1; n <= api.MaxSelectors; n++ {
		checkParse(t, body(byte(n), bytes.Repeat(one4, n)), slices.Repeat([]api.Selector{parsed4}, n))
		checkParse(t, body(byte(n), bytes.Repeat(one6, n)), slices.Repeat([]api.Selector{parsed6}, n))
		checkParseError(t, body(byte(n), bytes.Repeat(one4, n-1)), api.ErrSyntax)
		checkParseError(t, body(byte(n), bytes.Repeat(one4, n+1)), api.ErrSyntax)
	}
}

// P5.4: each length has one right value for each type.
func TestParseLengths(t *testing.T) {
	for _, one := range [][]byte{one4, one6} {
		for v := range 65536 {
			b := bytes.Clone(one)
			b[2], b[3] = byte(v>>8), byte(v)
			// There may be just as many bytes as the length says.
			if v > len(b) && v < 100 {
				b = append(b, make([]byte, v-len(b))...)
			}
			switch {
			case v != len(one):
				checkParseError(t, body(1, b), api.ErrSyntax)
				checkParseError(t, body(2, b, one4), api.ErrSyntax)
				checkParseError(t, body(1, b[:min(v, len(b))]), api.ErrSyntax)
			default:
				checkParse(t, body(1, b), []api.Selector{readByHand(b)})
			}
		}
	}
	for kind := range 256 {
		for _, one := range [][]byte{one4, one6} {
			b := bytes.Clone(one)
			b[0] = byte(kind)
			if b[0] != one[0] {
				checkParseError(t, body(1, b), api.ErrSyntax)
				checkParseError(t, body(2, one4, b), api.ErrSyntax)
				checkParseError(t, body(2, b, one4), api.ErrSyntax)
			}
		}
	}
}

// P5.4: a body that ends too early, or too late.
func TestParseOtherEnds(t *testing.T) {
	checkParseError(t, nil, api.ErrShort)
	checkParseError(t, []byte{}, api.ErrShort)
	for _, whole := range [][]byte{both, body(1, one4), body(1, one6), body(0), body(255)} {
		for n := range 4 {
			checkParseError(t, whole[:n], api.ErrShort)
			checkParseError(t, whole[:n:n], api.ErrShort)
		}
	}
	for _, whole := range [][]byte{both, body(1, one4), body(1, one6), body(2, one6, one4)} {
		for n := 4; n < len(whole); n++ {
			checkParseError(t, whole[:n], api.ErrSyntax)
			checkParseError(t, whole[:n:n], api.ErrSyntax)
		}
		for n := 1; n < 50; n++ {
			checkParseError(t, append(bytes.Clone(whole), make([]byte, n)...), api.ErrSyntax)
		}
	}
}

// P5.4: an error of the format, wherever it is, comes ahead of those of Check, and those in the order of the selectors.
func TestParseOrder(t *testing.T) {
	ports := unhex("07060010", "00020001", "0a000000", "0a0000ff")
	opaque := unhex("07060010", "ffff0001", "0a000000", "0a0000ff")
	range4 := unhex("07060010", "00010002", "0a0000ff", "0a000000")
	range6 := unhex("08060028", "00010002", "0000000000000001", "0000000000000000", "0000000000000000", "ffffffffffffffff")
	for _, b := range [][]byte{ports, opaque, range4, range6} {
		checkParseError(t, body(1, b), api.ErrRange)
		checkParseError(t, body(3, one6, b, one4), api.ErrRange)
		checkParseError(t, body(3, one6, one4, b), api.ErrRange)
		checkParseError(t, body(2, b), api.ErrSyntax)
		checkParseError(t, body(1, b, one4), api.ErrSyntax)
		checkParseError(t, body(2, b, one6[:39]), api.ErrSyntax)
		checkParseError(t, body(2, b, one4, []byte{0}), api.ErrSyntax)
		checkParseError(t, body(2, b, unhex("09060010"), one4[4:]), api.ErrSyntax)
		checkParseError(t, body(0, b), api.ErrMissing)
		checkParseError(t, body(17, b), api.ErrTooMany)
	}
}

// P5.3, P5.4
func TestBuild(t *testing.T) {
	checkBuild(t, []api.Selector{parsed4, parsed6}, body(2, one4, one6))
	checkBuild(t, []api.Selector{parsed6}, body(1, one6))
	checkBuild(t, []api.Selector{between(six(0, 5), six(0, 5)), sel(255, 65535, 0, 0, top32)},
		unhex("02000000", "08000028", "0000ffff", "00000000000000000000000000000005", "00000000000000000000000000000005", "07ff0010", "ffff0000", "00000000", "ffffffff"))
	checkBuildError(t, nil, api.ErrMissing)
	checkBuildError(t, []api.Selector{}, api.ErrMissing)
	for n := 1; n <= api.MaxSelectors; n++ {
		checkBuild(t, slices.Repeat([]api.Selector{parsed6}, n), body(byte(n), bytes.Repeat(one6, n)))
	}
	for _, n := range []int{api.MaxSelectors + 1, 255, 256, 257, 1000} {
		checkBuildError(t, slices.Repeat([]api.Selector{parsed4}, n), api.ErrTooMany)
		checkBuildError(t, make([]api.Selector, n), api.ErrTooMany)
	}
}

// anyAddress returns a valid address, often one at the end of its family.
func anyAddress(r *rand.Rand, family int) api.Address {
	numbers := []uint64{0, 1, 2, top32 - 1, top32, r.Uint64() >> 32}
	if family == 4 {
		return four(numbers[r.Intn(len(numbers))])
	}
	numbers = append(numbers, 1<<63, top64, r.Uint64())
	return six(numbers[r.Intn(len(numbers))], numbers[r.Intn(len(numbers))])
}

// anySelector returns a selector for which Check is OK.
func anySelector(r *rand.Rand) api.Selector {
	family := 4 + 2*r.Intn(2)
	s := between(anyAddress(r, family), anyAddress(r, family))
	if Less(s.Hi, s.Lo) {
		s.Lo, s.Hi = s.Hi, s.Lo
	}
	s.Protocol = r.Intn(256)
	switch r.Intn(4) {
	case 0:
		s.PortLo, s.PortHi = 65535, 0
	case 1:
		s.PortLo, s.PortHi = 0, 65535
	default:
		s.PortLo = r.Intn(65536)
		s.PortHi = s.PortLo + r.Intn(65536-s.PortLo)
	}
	return s
}

// P5.7: Parse of Build returns the selectors, and the bytes that count are built again.
func TestParseOfBuild(t *testing.T) {
	r := rand.New(rand.NewSource(5))
	for range 3000 {
		l := make([]api.Selector, 1+r.Intn(api.MaxSelectors))
		for i := range l {
			l[i] = anySelector(r)
		}
		b, e := Build(l)
		if e != api.OK {
			t.Fatalf("Build(%v) = %d", l, e)
		}
		checkParse(t, b, l)
		for range r.Intn(4) {
			b[r.Intn(len(b))] = byte(r.Intn(256))
		}
		if l, e := Parse(b); e == api.OK {
			b[1], b[2], b[3] = 0, 0, 0
			checkBuild(t, l, b)
		}
	}
}

// R1: Parse returns for any bytes; with few different bytes, some of them are selectors.
func TestParseAnything(t *testing.T) {
	r := rand.New(rand.NewSource(6))
	for range 200000 {
		b := make([]byte, r.Intn(48))
		for i := range b {
			b[i] = []byte{0, 0, 1, 2, 7, 8, 16, 40}[r.Intn(8)]
		}
		if l, e := Parse(b); e != api.OK && len(l) != 0 {
			t.Errorf("Parse(%x) = %v, %d", b, l, e)
		}
	}
}

// P5.5: addresses.
func TestHasAddress(t *testing.T) {
	for _, c := range []struct {
		lo, hi   api.Address
		has, not []api.Address
	}{
		{four(10), four(20), []api.Address{four(10), four(11), four(19), four(20)}, []api.Address{four(0), four(9), four(21), four(top32), six(0, 15), six(15, 15)}},
		{four(10), four(10), []api.Address{four(10)}, []api.Address{four(9), four(11), six(0, 10)}},
		{four(0), four(top32), []api.Address{four(0), four(1 << 31), four(top32)}, []api.Address{six(0, 0), six(0, 5), six(top64, top64), four(1 << 32), {Family: 4, Hi: 1}, {}, {Family: 5}}},
		{six(0, 0), six(top64, top64), []api.Address{six(0, 0), six(7, 7), six(top64, top64)}, []api.Address{four(0), four(top32), {}, {Family: 7}, {Family: -6}}},
		{six(1, 5), six(3, 4), []api.Address{six(1, 5), six(1, top64), six(2, 0), six(2, 9), six(3, 0), six(3, 4)}, []api.Address{six(1, 4), six(3, 5), six(0, 5), six(0, top64), six(4, 4), six(4, 0), four(5), four(4)}},
	} {
		s := between(c.lo, c.hi)
		for _, a := range c.has {
			if !Has(s, a, 6, 80) {
				t.Errorf("Has(%v, %v) = false", s, a)
			}
		}
		for _, a := range c.not {
			if Has(s, a, 6, 80) {
				t.Errorf("Has(%v, %v) = true", s, a)
			}
		}
	}
}

// P5.5: protocols.
func TestHasProtocol(t *testing.T) {
	for p := range 256 {
		for q := range 256 {
			want := p == 0 || p == q
			if got := Has(sel(p, 0, 65535, 5, 6), four(5), q, 80); got != want {
				t.Errorf("Protocol %d: Has of the protocol %d = %v", p, q, got)
			}
		}
	}
}

// P5.5: ports.
func TestHasPort(t *testing.T) {
	for port := api.Opaque; port <= 65535; port++ {
		for _, c := range []struct {
			from, to int
			want     bool
		}{
			{65535, 0, port == api.Opaque},
			{0, 65535, true},
			{0, 65534, port != api.Opaque && port != 65535},
			{1, 65535, port > 0},
			{0, 0, port == 0},
			{65535, 65535, port == 65535},
			{80, 80, port == 80},
			{80, 90, port >= 80 && port <= 90},
		} {
			if got := Has(sel(17, c.from, c.to, 5, 6), four(6), 17, port); got != c.want {
				t.Errorf("%d to %d: Has of the port %d = %v", c.from, c.to, port, got)
			}
		}
	}
}

// P5.5: all of address, protocol and port decide.
func TestHasAll(t *testing.T) {
	s := sel(6, 80, 90, 10, 20)
	for _, a := range []uint64{9, 10} {
		for _, protocol := range []int{0, 6, 17} {
			for _, port := range []int{api.Opaque, 79, 80} {
				want := a == 10 && protocol == 6 && port == 80
				if got := Has(s, four(a), protocol, port); got != want {
					t.Errorf("Has(%v, %d, %d, %d) = %v", s, a, protocol, port, got)
				}
			}
		}
	}
}

// checkMeet fails unless Meet is as it should be, both ways round, and inside both.
func checkMeet(t *testing.T, a, b, want api.Selector, ok bool) {
	t.Helper()
	for _, p := range [][2]api.Selector{{a, b}, {b, a}} {
		m, found := Meet(p[0], p[1])
		if m != want || found != ok {
			t.Errorf("Meet(%v, %v) = %v, %v, want %v, %v", p[0], p[1], m, found, want, ok)
		}
		if found && (!Inside(m, p[0]) || !Inside(m, p[1])) {
			t.Errorf("Meet(%v, %v) = %v is not inside", p[0], p[1], m)
		}
	}
}

// P5.6
func TestMeet(t *testing.T) {
	none := api.Selector{}
	for _, c := range []struct {
		a, b, want api.Selector
	}{
		{sel(0, 0, 65535, 0x0a000000, 0x0a0000ff), sel(0, 80, 90, 0x0a000008, 0x0a000100), sel(0, 80, 90, 0x0a000008, 0x0a0000ff)},
		{sel(6, 80, 90, 10, 20), sel(6, 80, 90, 10, 20), sel(6, 80, 90, 10, 20)},
		{sel(0, 0, 65535, 10, 20), sel(0, 0, 65535, 20, 30), sel(0, 0, 65535, 20, 20)},
		{sel(0, 0, 65535, 10, 20), sel(0, 0, 65535, 21, 30), none},
		{sel(0, 0, 65535, 10, 40), sel(0, 0, 65535, 21, 30), sel(0, 0, 65535, 21, 30)},
		{between(six(1, 5), six(3, 0)), between(six(0, 9), six(2, 9)), between(six(1, 5), six(2, 9))},
		{between(six(1, 5), six(1, 9)), between(six(2, 0), six(2, 9)), none},
		{between(six(0, 0), six(top64, top64)), between(four(0), four(top32)), none},
		{between(six(0, 5), six(0, 5)), between(four(5), four(5)), none},
		{sel(6, 0, 65535, 5, 5), sel(0, 0, 65535, 5, 5), sel(6, 0, 65535, 5, 5)},
		{sel(6, 0, 65535, 5, 5), sel(17, 0, 65535, 5, 5), none},
		{sel(6, 0, 65535, 5, 5), sel(7, 0, 65535, 5, 5), none},
		{sel(255, 80, 90, 5, 5), sel(255, 90, 99, 5, 5), sel(255, 90, 90, 5, 5)},
		{sel(0, 80, 90, 5, 5), sel(0, 91, 99, 5, 5), none},
		{sel(0, 80, 90, 5, 5), sel(0, 85, 86, 5, 5), sel(0, 85, 86, 5, 5)},
		{sel(0, 65535, 0, 5, 5), sel(0, 65535, 0, 5, 5), sel(0, 65535, 0, 5, 5)},
		{sel(0, 65535, 0, 5, 5), sel(0, 0, 65535, 5, 5), sel(0, 65535, 0, 5, 5)},
		{sel(0, 65535, 0, 5, 5), sel(6, 0, 65535, 4, 6), sel(6, 65535, 0, 5, 5)},
		{sel(0, 65535, 0, 5, 5), sel(6, 65535, 0, 6, 6), none},
		{sel(1, 65535, 0, 5, 5), sel(6, 65535, 0, 5, 5), none},
		{sel(0, 65535, 0, 5, 5), sel(0, 0, 65534, 5, 5), none},
		{sel(0, 65535, 0, 5, 5), sel(0, 1, 65535, 5, 5), none},
		{sel(0, 65535, 0, 5, 5), sel(0, 0, 0, 5, 5), none},
		{sel(0, 65535, 0, 5, 5), sel(0, 65535, 65535, 5, 5), none},
		{sel(0, 0, 65534, 5, 5), sel(0, 1, 65535, 5, 5), sel(0, 1, 65534, 5, 5)},
		{sel(0, 0, 0, 5, 5), sel(0, 0, 65535, 5, 5), sel(0, 0, 0, 5, 5)},
		{sel(0, 0, 65534, 5, 5), sel(0, 0, 65535, 5, 5), sel(0, 0, 65534, 5, 5)},
		{sel(0, 65535, 65535, 5, 5), sel(0, 0, 65535, 5, 5), sel(0, 65535, 65535, 5, 5)},
		{sel(0, 65535, 65535, 5, 5), sel(0, 0, 0, 5, 5), none},
	} {
		checkMeet(t, c.a, c.b, c.want, c.want != none)
	}
}

// P5.6
func TestInside(t *testing.T) {
	all := sel(0, 0, 65535, 0, top32)
	for _, c := range []struct {
		a, b api.Selector
		want bool
	}{
		{sel(6, 80, 90, 8, 9), all, true},
		{all, all, true},
		{all, sel(6, 80, 90, 8, 9), false},
		{sel(0, 80, 90, 8, 9), sel(6, 0, 65535, 0, 255), false},
		{sel(0, 80, 90, 8, 9), sel(255, 80, 90, 8, 9), false},
		{sel(6, 80, 90, 8, 9), sel(17, 80, 90, 8, 9), false},
		{sel(6, 65535, 0, 8, 9), all, true},
		{sel(6, 65535, 0, 8, 9), sel(6, 65535, 0, 8, 9), true},
		{sel(6, 0, 65535, 8, 9), sel(6, 65535, 0, 0, 255), false},
		{sel(6, 65535, 0, 8, 9), sel(6, 0, 65534, 0, 255), false},
		{sel(6, 0, 65534, 8, 9), sel(6, 65535, 0, 0, 255), false},
		{sel(6, 0, 65535, 8, 9), sel(6, 0, 65534, 8, 9), false},
		{sel(6, 0, 0, 8, 9), sel(6, 65535, 0, 8, 9), false},
		{sel(6, 80, 91, 8, 9), sel(6, 80, 90, 8, 9), false},
		{sel(6, 79, 90, 8, 9), sel(6, 80, 90, 8, 9), false},
		{sel(6, 80, 90, 8, 10), sel(6, 80, 90, 8, 9), false},
		{sel(6, 80, 90, 7, 9), sel(6, 80, 90, 8, 9), false},
		{sel(6, 80, 90, 10, 11), sel(6, 80, 90, 8, 9), false},
		{between(six(1, 0), six(1, 9)), between(six(0, 5), six(2, 5)), true},
		{between(six(0, 0), six(1, 9)), between(six(0, 5), six(2, 5)), false},
		{between(six(0, 5), six(0, 5)), all, false},
		{between(four(5), four(5)), between(six(0, 0), six(top64, top64)), false},
	} {
		if got := Inside(c.a, c.b); got != c.want {
			t.Errorf("Inside(%v, %v) = %v", c.a, c.b, got)
		}
	}
}

// ranges returns all selectors of protocols 0, 6 and 255 and some ports between any two of these addresses.
func ranges(l []api.Address) []api.Selector {
	var out []api.Selector
	for i, lo := range l {
		for _, hi := range l[i:] {
			for _, protocol := range []int{0, 6, 255} {
				for _, p := range [][2]int{{65535, 0}, {0, 65535}, {0, 0}, {0, 65534}, {1, 65535}, {80, 90}, {90, 65535}, {1, 65534}, {65535, 65535}} {
					out = append(out, api.Selector{Protocol: protocol, PortLo: p[0], PortHi: p[1], Lo: lo, Hi: hi})
				}
			}
		}
	}
	return out
}

// packets are some of the packets of a selector, a bit for each; different ones of ranges have different bits.
type packets [5]uint64

func packetsOf(s api.Selector, addresses []api.Address) packets {
	var bits packets
	n := 0
	for _, a := range addresses {
		for _, protocol := range []int{0, 1, 6, 255} {
			for _, port := range []int{api.Opaque, 0, 1, 80, 90, 65534, 65535} {
				if Has(s, a, protocol, port) {
					bits[n/64] |= 1 << (n % 64)
				}
				n++
			}
		}
	}
	return bits
}

// P5.7: what Meet and Inside say is what Has says, for all pairs of many selectors. (So Inside is reflexive and transitive.)
func TestMeetAndInsideOfPackets(t *testing.T) {
	l4 := []api.Address{four(0), four(1), four(7), four(1 << 31), four(top32)}
	l6 := []api.Address{six(0, 0), six(0, 7), six(0, top64), six(1, 0), six(top64, top64)}
	all := slices.Concat(ranges(l4), ranges(l6))
	known := map[api.Selector]packets{}
	setOf := func(s api.Selector) packets {
		set, ok := known[s]
		if !ok {
			set = packetsOf(s, slices.Concat(l4, l6))
			known[s] = set
		}
		return set
	}
	for _, a := range all {
		setA := setOf(a)
		for _, b := range all {
			common := setOf(b)
			for k := range common {
				common[k] &= setA[k]
			}
			m, ok := Meet(a, b)
			if ok != (common != packets{}) || !ok && m != (api.Selector{}) {
				t.Fatalf("Meet(%v, %v) = %v, %v", a, b, m, ok)
			}
			if ok && (Check(m) != api.OK || setOf(m) != common) {
				t.Fatalf("Meet(%v, %v) = %v has other packets", a, b, m)
			}
			if Inside(a, b) != (common == setA) || ok && (!Inside(m, a) || !Inside(m, b)) {
				t.Fatalf("Inside(%v, %v) = %v", a, b, Inside(a, b))
			}
		}
	}
}

// P5.7: the same for any selectors, and packets at their ends.
func TestMeetOfAnySelectors(t *testing.T) {
	r := rand.New(rand.NewSource(7))
	for range 100000 {
		a, b := anySelector(r), anySelector(r)
		a.Protocol %= 3
		b.Protocol %= 3
		m, ok := Meet(a, b)
		if ok && (Check(m) != api.OK || !Inside(m, a) || !Inside(m, b)) {
			t.Errorf("Meet(%v, %v) = %v", a, b, m)
		}
		for _, address := range []api.Address{a.Lo, a.Hi, b.Lo, b.Hi} {
			for _, port := range []int{api.Opaque, a.PortLo, a.PortHi, b.PortLo, b.PortHi} {
				in := Has(a, address, b.Protocol, port) && Has(b, address, b.Protocol, port)
				if in != (ok && Has(m, address, b.Protocol, port)) {
					t.Errorf("Meet(%v, %v) = %v, %v: packet %v, %d, %d", a, b, m, ok, address, b.Protocol, port)
				}
			}
		}
	}
}

// R1: no function panics on selectors that are not as they should be.
func TestAnySelectorReturns(t *testing.T) {
	numbers := []int{math.MinInt, -2, -1, 0, 1, 4, 6, 65535, 65536, math.MaxInt}
	r := rand.New(rand.NewSource(8))
	number := func() int { return numbers[r.Intn(len(numbers))] }
	address := func() api.Address {
		return api.Address{Family: number(), Hi: uint64(number()), Lo: uint64(number())}
	}
	anything := func() api.Selector {
		return api.Selector{Protocol: number(), PortLo: number(), PortHi: number(), Lo: address(), Hi: address()}
	}
	for range 100000 {
		a, b := anything(), anything()
		Has(a, address(), number(), number())
		Inside(a, b)
		if m, ok := Meet(a, b); !ok && m != (api.Selector{}) {
			t.Errorf("Meet(%v, %v) = %v, false", a, b, m)
		}
		if e := Check(a); e != api.OK {
			checkBuildError(t, []api.Selector{a, b}, e)
		}
	}
}

// R2: arguments stay as they are, with their spare capacity, and results are new memory.
func TestArgumentsStay(t *testing.T) {
	whole := append(bytes.Clone(both), bytes.Repeat([]byte{0xa5}, 64)...)
	kept := bytes.Clone(whole)
	l, _ := Parse(whole[:len(both)])
	clear(l)
	if !bytes.Equal(whole, kept) {
		t.Errorf("the bytes became %x", whole)
	}
	list := []api.Selector{parsed4, parsed6, {Protocol: 77}}
	b, _ := Build(list[:2])
	clear(b)
	if !slices.Equal(list, []api.Selector{parsed4, parsed6, {Protocol: 77}}) {
		t.Errorf("the selectors became %v", list)
	}
	checkBuild(t, list[:2], body(2, one4, one6))
}
