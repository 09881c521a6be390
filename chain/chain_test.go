package chain

import (
	"bytes"
	"math"
	"testing"

	"ipsecgate/api"
)

// same reports whether two lists have the same payloads; a nil body is an empty one.
func same(a, b []api.Raw) bool {
	if len(a) != len(b) {
		return false
	}
	for i, p := range a {
		if p.Type != b[i].Type || p.Critical != b[i].Critical || !bytes.Equal(p.Body, b[i].Body) {
			return false
		}
	}
	return true
}

func checkParse(t *testing.T, first int, b []byte, want []api.Raw, inside int) {
	t.Helper()
	if l, got, e := Parse(first, b); !same(l, want) || got != inside || e != api.OK {
		t.Errorf("Parse(%d, %.80x) = %v, %d, %d, want %v, %d", first, b, l, got, e, want, inside)
	}
}

func checkParseError(t *testing.T, first int, b []byte, want api.Errno) {
	t.Helper()
	if l, inside, e := Parse(first, b); len(l) != 0 || inside != 0 || e != want {
		t.Errorf("Parse(%d, %.80x) = %d payloads, %d, %d, want the error %d", first, b, len(l), inside, e, want)
	}
}

func checkBuild(t *testing.T, l []api.Raw, last, first int, want []byte) {
	t.Helper()
	if got, b, e := Build(l, last); got != first || !bytes.Equal(b, want) || e != api.OK {
		t.Errorf("Build(%.80v, %d) = %d, %.80x, %d, want %d, %.80x", l, last, got, b, e, first, want)
	}
}

func checkBuildError(t *testing.T, l []api.Raw, last int, want api.Errno) {
	t.Helper()
	if first, b, e := Build(l, last); first != 0 || len(b) != 0 || e != want {
		t.Errorf("Build(%d payloads, %d) = %d, %d bytes, %d, want the error %d", len(l), last, first, len(b), e, want)
	}
}

// nonces returns n empty nonce payloads.
func nonces(n int) []api.Raw {
	l := make([]api.Raw, n)
	for i := range l {
		l[i].Type = api.PayloadNonce
	}
	return l
}

// written returns the bytes of n empty payloads, each of which but the last one names a nonce as the next one.
func written(n int, last byte) []byte {
	b := bytes.Repeat([]byte{api.PayloadNonce, 0, 0, 4}, n)
	b[4*n-4] = last
	return b
}

// three is a chain of three payloads, with all that P3.1 mentions but a sealed payload.
var three = []byte{
	39, 0x80, 0, 7, 1, 2, 3,
	200, 0, 0, 4,
	0, 0x80, 0, 5, 9,
}

var threeParsed = []api.Raw{
	{Type: 33, Critical: true, Body: []byte{1, 2, 3}},
	{Type: 39},
	{Type: 200, Critical: true, Body: []byte{9}},
}

// P3.1, P3.2
func TestParse(t *testing.T) {
	checkParse(t, 40, []byte{0, 0, 0, 6, 1, 2}, []api.Raw{{Type: 40, Body: []byte{1, 2}}}, 0)
	checkParse(t, 33, three, threeParsed, 0)
	for first := 1; first < 256; first++ {
		if first != api.PayloadSealed && first != api.PayloadFragment {
			checkParse(t, first, []byte{0, 0, 0, 5, 7}, []api.Raw{{Type: first, Body: []byte{7}}}, 0)
			checkParse(t, 40, []byte{byte(first), 0, 0, 5, 7, 0, 0, 0, 4}, []api.Raw{{Type: 40, Body: []byte{7}}, {Type: first}}, 0)
		}
	}
}

// P3.1, P3.2: only the highest bit is the critical one.
func TestParseCritical(t *testing.T) {
	for bits := range 256 {
		want := []api.Raw{{Type: 40, Critical: bits >= 128}, {Type: 41, Critical: bits < 128}}
		checkParse(t, 40, []byte{41, byte(bits), 0, 4, 0, byte(^bits), 0, 4}, want, 0)
	}
}

// P3.1, P3.2: the length has two bytes, the highest first.
func TestParseLengths(t *testing.T) {
	for _, n := range []int{4, 5, 255, 256, 257, 0x1234, 0x3412, 65534, 65535} {
		b := bytes.Repeat([]byte{0xee}, n)
		copy(b, []byte{41, 0, byte(n >> 8), byte(n)})
		body := b[4:n:n]
		checkParse(t, 40, append(b, 0, 0, 0, 4), []api.Raw{{Type: 40, Body: body}, {Type: 41}}, 0)
		if n > 4 {
			checkParseError(t, 40, b[:n-1:n-1], api.ErrLength)
		}
	}
}

// P3.1, P3.2: what a sealed payload or a fragment names is inside, so that the payload is the last one.
func TestParseInside(t *testing.T) {
	for _, kind := range []int{api.PayloadSealed, api.PayloadFragment} {
		for inside := range 256 {
			b := []byte{byte(inside), 0x80, 0, 6, 1, 2}
			want := api.Raw{Type: kind, Critical: true, Body: []byte{1, 2}}
			checkParse(t, kind, b, []api.Raw{want}, inside)
			checkParse(t, 41, append([]byte{byte(kind), 0, 0, 4}, b...), []api.Raw{{Type: 41}, want}, inside)
			checkParseError(t, kind, append(b, 0, 0, 0, 4), api.ErrLength)
			checkParseError(t, kind, b[:5], api.ErrLength)
			checkParseError(t, kind, b[:3], api.ErrShort)
		}
	}
}

// P3.2: without payloads.
func TestParseNothing(t *testing.T) {
	checkParse(t, 0, nil, nil, 0)
	checkParse(t, 0, []byte{}, nil, 0)
	checkParseError(t, 0, []byte{0}, api.ErrLength)
	checkParseError(t, 0, []byte{0, 0, 0, 4}, api.ErrLength)
	checkParseError(t, 0, three, api.ErrLength)
}

// P3.2: a wrong first type comes ahead of all that the bytes have.
func TestParseFirst(t *testing.T) {
	for _, first := range []int{math.MinInt, -216, -1, 256, 256 + 40, 256 + 46, 1 << 32, math.MaxInt} {
		checkParseError(t, first, nil, api.ErrRange)
		checkParseError(t, first, []byte{0, 0, 0, 4}, api.ErrRange)
		checkParseError(t, first, []byte{0, 0, 0, 3}, api.ErrRange)
		checkParseError(t, first, []byte{0, 0, 0, 4, 0}, api.ErrRange)
		checkParseError(t, first, written(api.MaxPayloads+1, 0), api.ErrRange)
	}
}

// P3.2: each beginning of a chain is wrong at the payload that it cuts.
func TestParseCut(t *testing.T) {
	starts := map[int]bool{0: true, 7: true, 11: true}
	start := 0
	for n := range len(three) {
		if starts[n] {
			start = n
		}
		want := api.ErrLength
		if n-start < 4 {
			want = api.ErrShort
		}
		checkParseError(t, 33, three[:n:n], want)
		// What is behind the list is not read.
		checkParseError(t, 33, three[:n], want)
	}
}

// P3.2
func TestParseWrongLength(t *testing.T) {
	for length := range 65536 {
		b := []byte{0, 0, byte(length >> 8), byte(length), 1, 2, 3}
		if length != 7 {
			checkParseError(t, 40, b, api.ErrLength)
		}
		// Behind another payload, and ahead of the next one.
		b = append([]byte{39, 0, 0, 5, 7, 41}, b[1:]...)
		if length < 4 || length > 7 {
			checkParseError(t, 40, b, api.ErrLength)
		}
	}
	checkParseError(t, 40, []byte{0, 0, 0, 4, 0, 0, 0, 4}, api.ErrLength)
	checkParseError(t, 33, append(bytes.Clone(three), 0), api.ErrLength)
}

// P3.2
func TestParseTooMany(t *testing.T) {
	const most = api.MaxPayloads
	checkParse(t, 40, written(most-1, 0), nonces(most-1), 0)
	checkParse(t, 40, written(most, 0), nonces(most), 0)
	for _, n := range []int{most + 1, most + 2, 300} {
		checkParseError(t, 40, written(n, 0), api.ErrTooMany)
	}
	last := nonces(most)
	last[most-1].Type = api.PayloadSealed
	b := written(most, 41)
	b[4*most-8] = api.PayloadSealed
	checkParse(t, 40, b, last, 41)
}

// P3.2: one payload too many comes ahead of what is wrong with it, and behind what is wrong ahead of it.
func TestParseTooManyOrder(t *testing.T) {
	const most = api.MaxPayloads
	full := written(most, api.PayloadNonce)
	for _, more := range [][]byte{nil, {0}, {0, 0, 0}, {0, 0, 0, 3}, {0, 0, 0, 5}, {0, 0, 0, 4, 0}} {
		checkParseError(t, 40, append(bytes.Clone(full), more...), api.ErrTooMany)
	}
	checkParseError(t, 40, full[:4*most-1], api.ErrShort)
	wrong := written(most+1, 0)
	wrong[4*most-1] = 3
	checkParseError(t, 40, wrong, api.ErrLength)
	checkParseError(t, 40, append(written(most, 0), 0, 0, 0, 4), api.ErrLength)
}

// P3.1, P3.3
func TestBuild(t *testing.T) {
	checkBuild(t, []api.Raw{{Type: 40, Body: []byte{1, 2}}}, 0, 40, []byte{0, 0, 0, 6, 1, 2})
	checkBuild(t, threeParsed, 0, 33, three)
	checkBuild(t, nil, 0, 0, nil)
	checkBuild(t, []api.Raw{}, 0, 0, nil)
	for kind := 1; kind < 256; kind++ {
		checkBuild(t, []api.Raw{{Type: kind}}, 0, kind, []byte{0, 0, 0, 4})
		checkBuild(t, []api.Raw{{Type: 40}, {Type: kind, Critical: true}}, 0, 40, []byte{byte(kind), 0, 0, 4, 0, 0x80, 0, 4})
	}
}

// P3.3: last is what a sealed payload or a fragment names, and nothing else names it.
func TestBuildLast(t *testing.T) {
	for last := 1; last < 256; last++ {
		for kind := 1; kind < 256; kind++ {
			l := []api.Raw{{Type: kind, Body: []byte{7}}}
			if kind == api.PayloadSealed || kind == api.PayloadFragment {
				checkBuild(t, l, last, kind, []byte{byte(last), 0, 0, 5, 7})
				checkBuild(t, append(nonces(1), l...), last, 40, []byte{byte(kind), 0, 0, 4, byte(last), 0, 0, 5, 7})
			} else {
				checkBuildError(t, l, last, api.ErrOrder)
			}
		}
		checkBuildError(t, nil, last, api.ErrOrder)
		checkBuildError(t, []api.Raw{}, last, api.ErrOrder)
	}
	for _, last := range []int{math.MinInt, -210, -1, 256, 256 + 40, 1 << 32, math.MaxInt} {
		checkBuildError(t, nil, last, api.ErrRange)
		checkBuildError(t, threeParsed, last, api.ErrRange)
		checkBuildError(t, []api.Raw{{Type: api.PayloadSealed}}, last, api.ErrRange)
		checkBuildError(t, []api.Raw{{Type: api.PayloadFragment}}, last, api.ErrRange)
	}
}

// P3.3
func TestBuildTypes(t *testing.T) {
	for _, kind := range []int{math.MinInt, -216, -1, 0, 256, 256 + 40, 256 + 46, 1 << 32, math.MaxInt} {
		checkBuildError(t, []api.Raw{{Type: kind}}, 0, api.ErrRange)
		checkBuildError(t, []api.Raw{{Type: kind}, {Type: 40}}, 0, api.ErrRange)
		checkBuildError(t, []api.Raw{{Type: 40}, {Type: kind}}, 0, api.ErrRange)
		checkBuildError(t, []api.Raw{{Type: 40}, {Type: kind}, {Type: 46}}, 0, api.ErrRange)
	}
}

// P3.3
func TestBuildLengths(t *testing.T) {
	for _, n := range []int{0, 1, 251, 252, 253, 0x1230, 65530, 65531} {
		body := bytes.Repeat([]byte{0xee}, n)
		want := append([]byte{40, 0, byte((n + 4) >> 8), byte(n + 4)}, body...)
		checkBuild(t, []api.Raw{{Type: 39, Body: body}, {Type: 40}}, 0, 39, append(want, 0, 0, 0, 4))
	}
	for _, n := range []int{65532, 65533, 65536, 1 << 17} {
		body := make([]byte, n)
		checkBuildError(t, []api.Raw{{Type: 40, Body: body}}, 0, api.ErrTooLong)
		checkBuildError(t, []api.Raw{{Type: 40}, {Type: 46, Body: body}}, 33, api.ErrTooLong)
	}
}

// P3.3
func TestBuildTooMany(t *testing.T) {
	const most = api.MaxPayloads
	checkBuild(t, nonces(most-1), 0, 40, written(most-1, 0))
	checkBuild(t, nonces(most), 0, 40, written(most, 0))
	checkBuildError(t, nonces(most+1), 0, api.ErrTooMany)
	checkBuildError(t, nonces(300), 0, api.ErrTooMany)
}

// P3.3: a sealed payload or a fragment that is not the last one.
func TestBuildOrder(t *testing.T) {
	for _, kind := range []int{api.PayloadSealed, api.PayloadFragment} {
		for _, last := range []int{0, 33} {
			checkBuildError(t, []api.Raw{{Type: kind}, {Type: 40}}, last, api.ErrOrder)
			checkBuildError(t, []api.Raw{{Type: kind}, {Type: kind}}, last, api.ErrOrder)
			checkBuildError(t, []api.Raw{{Type: 40}, {Type: kind}, {Type: 40}}, last, api.ErrOrder)
		}
	}
	checkBuildError(t, []api.Raw{{Type: api.PayloadSealed}, {Type: api.PayloadFragment}}, 33, api.ErrOrder)
}

// P3.3: which error comes first.
func TestBuildErrorOrder(t *testing.T) {
	long := make([]byte, 65532)
	many := nonces(api.MaxPayloads + 1)
	many[0] = api.Raw{Type: 0, Body: long}
	for i, c := range []struct {
		l    []api.Raw
		last int
		e    api.Errno
	}{
		{many, -1, api.ErrTooMany},
		{many, 33, api.ErrTooMany},
		{[]api.Raw{{Type: 0, Body: long}}, 0, api.ErrRange},
		{[]api.Raw{{Type: 46, Body: long}, {Type: 40}}, 0, api.ErrTooLong},
		{[]api.Raw{{Type: 40, Body: long}, {Type: 0}}, 0, api.ErrTooLong},
		{[]api.Raw{{Type: 0}, {Type: 40, Body: long}}, 0, api.ErrRange},
		{[]api.Raw{{Type: 53}, {Type: 0}}, 0, api.ErrOrder},
		{[]api.Raw{{Type: 53}, {Type: 40, Body: long}}, 0, api.ErrOrder},
		{[]api.Raw{{Type: 40, Body: long}, {Type: 46}, {Type: 40}}, 0, api.ErrTooLong},
		{[]api.Raw{{Type: 46}, {Type: 40}}, -1, api.ErrOrder},
		{[]api.Raw{{Type: 40, Body: long}}, -1, api.ErrTooLong},
		{[]api.Raw{{Type: 40, Body: long}}, 33, api.ErrTooLong},
		{[]api.Raw{{Type: 256}}, 33, api.ErrRange},
		{[]api.Raw{{Type: 40}}, 256, api.ErrRange},
		{nil, 256, api.ErrRange},
	} {
		if first, b, e := Build(c.l, c.last); first != 0 || len(b) != 0 || e != c.e {
			t.Errorf("%d: Build = %d, %d bytes, %d, want %d", i, first, len(b), e, c.e)
		}
	}
}

// P3.4
func TestKnown(t *testing.T) {
	known := map[int]bool{}
	for _, kind := range []int{33, 34, 35, 36, 37, 39, 40, 41, 42, 43, 44, 45, 46, 53} {
		known[kind] = true
	}
	for kind := -1000; kind < 1000; kind++ {
		if got := Known(kind); got != known[kind] {
			t.Errorf("Known(%d) = %v", kind, got)
		}
	}
	for _, kind := range []int{math.MinInt, math.MaxInt, 1<<32 + 33} {
		if Known(kind) {
			t.Errorf("Known(%d)", kind)
		}
	}
}

// P3.5
func TestParseOfBuild(t *testing.T) {
	bodies := [][]byte{nil, {0}, {1, 2, 3}, make([]byte, 300), bytes.Repeat([]byte{0xff}, 65531)}
	for n := range api.MaxPayloads + 1 {
		var l []api.Raw
		for i := range n {
			l = append(l, api.Raw{Type: 54 + 5*i, Critical: i%3 == 1, Body: bodies[(i+n)%len(bodies)]})
		}
		for _, kind := range []int{0, api.PayloadSealed, api.PayloadFragment} {
			last := 0
			if kind != 0 && n > 0 {
				l[n-1].Type, last = kind, 5*n
			}
			first, b, e := Build(l, last)
			if e != api.OK {
				t.Fatalf("Build of %d payloads = %d", n, e)
			}
			if got, inside, e := Parse(first, b); !same(got, l) || inside != last || e != api.OK {
				t.Errorf("Parse of Build of %d payloads = %d payloads, %d, %d", n, len(got), inside, e)
			}
		}
	}
}

// P3.5
func TestBuildOfParse(t *testing.T) {
	for bits := range 256 {
		for _, kind := range []byte{1, 40, 46, 53, 255} {
			for _, inside := range []byte{0, 1, 46, 255} {
				if kind != 46 && kind != 53 {
					inside = 0
				}
				b := []byte{39, byte(bits), 0, 6, 1, 2, kind, 0, 0, 4, inside, byte(255 - bits), 0, 5, 3}
				l, last, e := Parse(33, b)
				if e != api.OK {
					t.Fatalf("Parse(%x) = %d", b, e)
				}
				b[1] &= 128
				b[11] &= 128
				checkBuild(t, l, last, 33, b)
			}
		}
	}
}

// R2: payloads are memory of their own.
func TestParseLeavesArgument(t *testing.T) {
	whole := append(bytes.Clone(three), bytes.Repeat([]byte{0xa5}, 16)...)
	kept := bytes.Clone(whole)
	l, _, e := Parse(33, whole[:len(three)])
	if e != api.OK {
		t.Fatalf("Parse = %d", e)
	}
	first := append(l[0].Body, 7, 7, 7, 7, 7)
	first[0] = 9
	l[2].Body[0] = 8
	_ = append(l[1].Body, 6)
	if !bytes.Equal(whole, kept) {
		t.Errorf("the argument became %x", whole)
	}
	l[0].Body[0] = 1
	l[2].Body[0] = 9
	if !same(l, threeParsed) {
		t.Errorf("the payloads became %v", l)
	}
}

// R2: bytes are memory of their own.
func TestBuildLeavesArgument(t *testing.T) {
	body := append([]byte{1, 2}, bytes.Repeat([]byte{0xa5}, 16)...)
	kept := bytes.Clone(body)
	l := []api.Raw{{Type: 40, Body: body[:2]}, {Type: 41, Body: body[:1]}, {Type: 42}}
	more := l[:2]
	_, b, e := Build(more, 0)
	if e != api.OK {
		t.Fatalf("Build = %d", e)
	}
	clear(append(b, 1, 2, 3))
	if !bytes.Equal(body, kept) || l[2].Type != 42 {
		t.Errorf("the argument became %x, %v", body, l)
	}
	checkBuild(t, more, 0, 40, []byte{41, 0, 0, 6, 1, 2, 0, 0, 0, 5, 1})
}

// The generator stops when the loop over it does, without an error.
func TestPayloadsStop(t *testing.T) {
	r := reader{bytes: three, next: 33}
	for p := range r.payloads {
		if !same([]api.Raw{p}, threeParsed[:1]) {
			t.Errorf("the first payload is %v", p)
		}
		break
	}
	if r.at != 7 || r.next != 39 || r.err != api.OK {
		t.Errorf("the reader stands at %d, ahead of %d, with %d", r.at, r.next, r.err)
	}
	var rest []api.Raw
	for p := range r.payloads {
		rest = append(rest, p)
	}
	if !same(rest, threeParsed[1:]) || r.err != api.OK {
		t.Errorf("the rest is %v, with %d", rest, r.err)
	}
}
