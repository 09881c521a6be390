package sealed

import (
	"bytes"
	"crypto/sha256"
	"fmt"
	"math"
	"math/rand"
	"slices"
	"testing"

	"ipsecgate/api"
	"ipsecgate/wire"
)

// splitOf returns the parts by hand.
func splitOf(h api.Header, first int, inner []byte, iv uint64, size int) [][]byte {
	total := 1
	for total*size < len(inner) {
		total++
	}
	var l [][]byte
	for i := range total {
		n := min(size, len(inner))
		f := part(i+1, total, padded(inner[:n])...)
		f.header, f.first, f.iv = withNext(h, api.PayloadFragment), 0, iv+uint64(i)
		if i == 0 {
			f.first = byte(first)
		}
		l = append(l, f.bytes())
		inner = inner[n:]
	}
	return l
}

// checkSplit fails if Split has other results than the parts by hand.
func checkSplit(t *testing.T, h api.Header, first int, inner []byte, iv uint64, size int) {
	t.Helper()
	want := splitOf(h, first, inner, iv, size)
	if l, e := Split(h, first, inner, key, iv, size); !slices.EqualFunc(l, want, bytes.Equal) || e != api.OK {
		t.Errorf("Split(%v, %d, %d bytes, %x, %d) = %.500x, %d, want %.500x", h, first, len(inner), iv, size, l, e, want)
	}
}

// checkSplitError fails if Split has another error.
func checkSplitError(t *testing.T, h api.Header, first int, inner, key []byte, size int, want api.Errno) {
	t.Helper()
	if l, e := Split(h, first, inner, key, 1, size); len(l) != 0 || e != want {
		t.Errorf("Split(%v, %d, %d bytes, %d bytes, %d) = %d parts, %d, want the error %d", h, first, len(inner), len(key), size, len(l), e, want)
	}
}

// same reports whether two parts are equal; nil bytes are no bytes.
func same(a, b api.Fragment) bool {
	return a.Number == b.Number && a.Total == b.Total && a.First == b.First && bytes.Equal(a.Data, b.Data)
}

// checkPart fails if OpenPart does not return what is given.
func checkPart(t *testing.T, name string, b []byte, h api.Header, want api.Fragment) {
	t.Helper()
	if got, f, e := OpenPart(b, key); got != h || !same(f, want) || e != api.OK {
		t.Errorf("%s: OpenPart(%.200x) = %v, %.200v, %d, want %v, %.200v", name, b, got, f, e, h, want)
	}
}

// checkPartError fails if OpenPart has another error, or returns something with it.
func checkPartError(t *testing.T, name string, b, key []byte, want api.Errno) {
	t.Helper()
	if h, f, e := OpenPart(b, key); h != (api.Header{}) || !same(f, api.Fragment{}) || e != want {
		t.Errorf("%s: OpenPart(%.200x) = %v, %.200v, %d, want the error %d", name, b, h, f, e, want)
	}
}

// P17.1, P17.4: parts that a program in another language computed with OpenSSL; the initial values wrap around.
func TestOtherParts(t *testing.T) {
	h := api.Header{Initiator: 0x0102030405060708, Responder: 0x1112131415161718, Exchange: 35, Flags: 8, ID: 1}
	want := []string{
		"010203040506070811121314151617183520230800000001000000412300002500010003fffffffffffffffe74e7ff7d75734e7e1ed21b34b179e8b09f9e8f30f1",
		"010203040506070811121314151617183520230800000001000000410000002500020003ffffffffffffffff8093d9c9c0206459e5f000224dcab382e622b164d7",
		"0102030405060708111213141516171835202308000000010000003f00000023000300030000000000000000a7d7142801c10df6348e4642cf9546bd0f2b6e",
	}
	l, e := Split(h, 35, sample(10, ofInner), key, 1<<64-2, 4)
	if len(l) != 3 || e != api.OK {
		t.Fatalf("Split = %d parts, %d", len(l), e)
	}
	for i, b := range l {
		if wire.Hex(b) != want[i] {
			t.Errorf("the part %d is %x, want %s", i+1, b, want[i])
		}
	}
	h = api.Header{Initiator: 0x0102030405060708, Responder: 0x1112131415161718, Exchange: 37, Flags: 32, ID: 7}
	l, e = Split(h, 255, sample(16*4096, ofInner), key, 1<<64-5, 4096)
	sum := sha256.Sum256(bytes.Join(l, nil))
	if len(l) != 16 || e != api.OK || wire.Hex(sum[:]) != "f825582c581ceca2a9a56d683d9ed5ce8856a4a640523e6ad72efaf5fa4fb048" {
		t.Errorf("Split = %d parts, %d, with the sum %x", len(l), e, sum)
	}
}

// P17.1, P17.4: all small numbers of bytes and sizes.
func TestSplit(t *testing.T) {
	for n := range 75 {
		for size := 1; size < 80; size++ {
			inner := sample(n, ofInner)
			if n > 16*size {
				checkSplitError(t, head, 33, inner, key, size, api.ErrTooMany)
				continue
			}
			checkSplit(t, head, 33, inner, uint64(n), size)
		}
	}
}

// P17.4: nil bytes are no bytes, and make one part.
func TestSplitNothing(t *testing.T) {
	for _, none := range [][]byte{nil, {}, sample(90, ofOther)[:0]} {
		for _, size := range []int{1, 100, 4096} {
			checkSplit(t, head, 33, none, 1, size)
			if l, e := Split(head, 33, none, key, 1, size); len(l) != 1 || len(l[0]) != 61 || e != api.OK {
				t.Errorf("Split of nothing = %x, %d", l, e)
			}
		}
	}
}

// P17.4: the greatest sizes and numbers of parts.
func TestSplitLimits(t *testing.T) {
	for _, size := range []int{1, 2, 255, 256, 257, 4095, 4096} {
		for _, parts := range []int{1, 2, 3, 15, 16} {
			for _, more := range []int{-1, 0, 1} {
				inner := sample(parts*size+more, ofInner)
				if len(inner) > 16*size {
					checkSplitError(t, head, 33, inner, key, size, api.ErrTooMany)
				} else {
					checkSplit(t, head, 33, inner, 1, size)
				}
			}
		}
	}
	for _, n := range []int{16*4096 + 1, 17 * 4096, 1 << 18} {
		checkSplitError(t, head, 33, make([]byte, n), key, 4096, api.ErrTooMany)
	}
}

// P17.1, P17.4: first belongs to the part 1 alone; initial values count modulo 2^64.
func TestSplitFields(t *testing.T) {
	inner := sample(10, ofInner)
	for first := range 256 {
		checkSplit(t, head, first, inner, 1, 3)
	}
	for _, iv := range []uint64{0, 254, 255, 1<<32 - 2, 1<<63 - 2, math.MaxUint64 - 3, math.MaxUint64 - 2, math.MaxUint64 - 1, math.MaxUint64} {
		checkSplit(t, head, 33, inner, iv, 3)
	}
	for exchange := 34; exchange <= 37; exchange++ {
		h := api.Header{Initiator: 1, Responder: 1, Exchange: exchange, Flags: 56}
		checkSplit(t, h, 33, inner, 1, 3)
	}
}

var wrongSizes = []int{math.MinInt, -4096, -1, 0, 4097, 8192, 1 << 16, 1 << 32, 1<<32 + 4, math.MaxInt}

// P17.4: each error, and that it comes ahead of all those behind it.
func TestSplitErrors(t *testing.T) {
	many := make([]byte, 16*4096+1)
	for _, size := range wrongSizes {
		for _, inner := range [][]byte{nil, {1}, many} {
			checkSplitError(t, head, 33, inner, key, size, api.ErrRange)
		}
	}
	for _, first := range wrongTypes {
		for _, size := range append(slices.Clone(wrongSizes), 1, 4096) {
			checkSplitError(t, head, first, []byte{1}, key, size, api.ErrRange)
			checkSplitError(t, head, first, many, key, size, api.ErrRange)
		}
	}
	for want, l := range wrongHeaders() {
		for _, h := range l {
			for _, size := range []int{0, 1, 4096, 4097} {
				checkSplitError(t, h, 33, nil, key, size, want)
				checkSplitError(t, h, 33, many, key, size, want)
				checkSplitError(t, h, -1, many, key, size, want)
			}
		}
	}
	for _, k := range wrongKeys {
		checkSplitError(t, head, 33, nil, k, 1, api.ErrKey)
		checkSplitError(t, head, 33, many, k, 1, api.ErrKey)
		checkSplitError(t, head, 33, nil, k, 0, api.ErrKey)
		checkSplitError(t, head, -1, nil, k, 1, api.ErrKey)
		checkSplitError(t, api.Header{}, -1, many, k, 0, api.ErrKey)
	}
}

// P17.5: all small numbers, and such that have two bytes.
func TestPartNumbers(t *testing.T) {
	numbers := []int{255, 256, 257, 256 + 16, 0x0100, 0x1000, 65535}
	for n := range 20 {
		numbers = append(numbers, n)
	}
	for _, number := range numbers {
		for _, total := range numbers {
			p := part(number, total, 7, 8, 0)
			wrongTag := changed(p.bytes(), len(p.bytes())-1, 1)
			if number < 1 || number > total || total > 16 {
				checkPartError(t, "number", p.bytes(), key, api.ErrRange)
				checkPartError(t, "number ahead of tag", wrongTag, key, api.ErrRange)
				continue
			}
			checkPart(t, "number", p.bytes(), p.header, api.Fragment{Number: number, Total: total, First: int(p.first), Data: []byte{7, 8}})
			checkPartError(t, "tag", wrongTag, key, api.ErrTag)
		}
	}
}

// P17.5: only the part 1 names a type.
func TestPartTypes(t *testing.T) {
	for first := range 256 {
		for number := 1; number <= 16; number++ {
			p := part(number, 16, 7, 8, 0)
			p.first = byte(first)
			if first != 0 && number != 1 {
				checkPartError(t, "type", p.bytes(), key, api.ErrOrder)
				continue
			}
			checkPart(t, "type", p.bytes(), p.header, api.Fragment{Number: number, Total: 16, First: first, Data: []byte{7, 8}})
		}
	}
}

// P17.5: each error that is also one of Open.
func TestPartErrors(t *testing.T) {
	good := part(2, 3, 1, 2, 3, 0).bytes()
	for n := range good {
		if n < 28 {
			checkPartError(t, "cut in the header", good[:n], key, api.ErrShort)
		} else {
			checkPartError(t, "cut", good[:n], key, api.ErrLength)
		}
	}
	checkPartError(t, "nil", nil, key, api.ErrShort)
	checkPartError(t, "version 1", changed(good, 17, 48), key, api.ErrVersion)
	checkPartError(t, "no SPI", append(make([]byte, 8), good[8:]...), key, api.ErrSpi)
	for next := range 256 {
		if next != 53 {
			checkPartError(t, "another type", changed(good, 16, byte(next^53)), key, api.ErrOrder)
		}
	}
	checkPartError(t, "no payload", shorter(good, 28), key, api.ErrShort)
	checkPartError(t, "head of a payload", shorter(good, 32), key, api.ErrLength)
	checkPartError(t, "one byte behind it", longer(good, 0), key, api.ErrLength)
	checkPartError(t, "a payload behind it", longer(good, 0, 0, 0, 4), key, api.ErrLength)
}

// P17.5: an error comes ahead of all those behind it.
func TestPartErrorOrder(t *testing.T) {
	form := part(2, 3, 1, 2, 3, 4)
	checkPartError(t, "syntax", form.bytes(), key, api.ErrSyntax)
	form.first = 33
	checkPartError(t, "type ahead of syntax", form.bytes(), key, api.ErrOrder)
	tag := changed(form.bytes(), len(form.bytes())-1, 1)
	checkPartError(t, "tag ahead of type", tag, key, api.ErrTag)
	number := changed(tag, 33, 2^4)
	checkPartError(t, "number ahead of tag", number, key, api.ErrRange)
	short := setLength(slices.Concat(number[:30], []byte{0, 32}, number[32:60]))
	checkPartError(t, "short ahead of number", short, key, api.ErrShort)
	length := longer(short, 0)
	checkPartError(t, "length ahead of short", length, key, api.ErrLength)
	next := changed(length, 16, 53^46)
	checkPartError(t, "type of the payload ahead of length", next, key, api.ErrOrder)
	spi := append(make([]byte, 8), next[8:]...)
	checkPartError(t, "header ahead of the type", spi, key, api.ErrSpi)
	for _, b := range [][]byte{nil, form.bytes(), tag, number, short, length, next, spi} {
		for _, k := range wrongKeys {
			checkPartError(t, "key ahead of all", b, k, api.ErrKey)
		}
	}
}

// fragment returns a part whose bytes tell which one it is, and when it was made.
func fragment(number, total, when int) api.Fragment {
	f := api.Fragment{Number: number, Total: total, Data: []byte{byte(number), byte(total), byte(when)}[:1+when%3]}
	if number == 1 {
		f.First = 33 + when
	}
	return f
}

// model is what Add should keep: the parts by their numbers.
type model struct {
	total int
	parts map[int]api.Fragment
}

// add does what Add should.
func (m *model) add(f api.Fragment) api.Errno {
	_, twice := m.parts[f.Number]
	switch {
	case f.Total < m.total:
		return api.ErrOrder
	case f.Total > m.total:
		m.total, m.parts = f.Total, map[int]api.Fragment{}
	case twice:
		return api.ErrTwice
	}
	m.parts[f.Number] = f
	return api.OK
}

// list returns the parts in order.
func (m *model) list() []api.Fragment {
	var l []api.Fragment
	for number := 1; number <= m.total; number++ {
		if f, ok := m.parts[number]; ok {
			l = append(l, f)
		}
	}
	return l
}

// checkAdd fails if Add has another result; it returns the list.
func checkAdd(t *testing.T, l []api.Fragment, f api.Fragment, want []api.Fragment, wantE api.Errno) []api.Fragment {
	t.Helper()
	got, e := Add(l, f)
	if !slices.EqualFunc(got, want, same) || e != wantE {
		t.Fatalf("Add(%v, %v) = %v, %d, want %v, %d", l, f, got, e, want, wantE)
	}
	return got
}

// checkJoin fails if Join does not return the parts of a model.
func checkJoin(t *testing.T, l []api.Fragment, m model) {
	t.Helper()
	var want []byte
	first, all := 0, len(l) > 0 && len(m.parts) == m.total
	if all {
		first = m.parts[1].First
		for _, f := range m.list() {
			want = append(want, f.Data...)
		}
	}
	if got, b, ok := Join(l); got != first || !bytes.Equal(b, want) || ok != all {
		t.Fatalf("Join(%v) = %d, %x, %v, want %d, %x, %v", l, got, b, ok, first, want, all)
	}
}

// P17.6: all short sequences of the parts of up to three parts.
func TestAddSequences(t *testing.T) {
	kinds := [][2]int{{1, 1}, {1, 2}, {2, 2}, {1, 3}, {2, 3}, {3, 3}}
	const length = 5
	sequences := 1
	for range length {
		sequences *= len(kinds)
	}
	for sequence := range sequences {
		var l []api.Fragment
		var m model
		for when := range length {
			kind := kinds[sequence%len(kinds)]
			sequence /= len(kinds)
			f := fragment(kind[0], kind[1], when)
			e := m.add(f)
			l = checkAdd(t, l, f, m.list(), e)
			checkJoin(t, l, m)
		}
	}
}

// P17.6: long sequences of all parts there can be.
func TestAddMany(t *testing.T) {
	random := rand.New(rand.NewSource(17))
	for range 300 {
		var l []api.Fragment
		var m model
		least := 1 + random.Intn(16)
		for when := range 120 {
			total := least + random.Intn(17-least)
			f := fragment(1+random.Intn(total), total, when)
			e := m.add(f)
			l = checkAdd(t, l, f, m.list(), e)
			checkJoin(t, l, m)
		}
	}
}

// P17.6: what cannot be a part is refused ahead of all else, without a list.
func TestAddRange(t *testing.T) {
	numbers := []int{math.MinInt, -1, 0, 1, 2, 15, 16, 17, 256, 257, 1 << 32, 1<<32 + 1, math.MaxInt}
	lists := [][]api.Fragment{nil, {}, {fragment(1, 1, 0)}, {fragment(1, 2, 0)}, {fragment(2, 3, 0), fragment(3, 3, 0)}, {fragment(16, 16, 0)}}
	for _, number := range numbers {
		for _, total := range numbers {
			f := api.Fragment{Number: number, Total: total, Data: []byte{1}}
			if 1 <= number && number <= total && total <= 16 {
				checkAdd(t, nil, f, []api.Fragment{f}, api.OK)
				continue
			}
			for _, l := range lists {
				checkAdd(t, l, f, nil, api.ErrRange)
			}
		}
	}
}

// P17.6: each place of each list, and that a part that is there stays as it was first.
func TestAddPlaces(t *testing.T) {
	for total := 1; total <= 10; total++ {
		for set := range 1 << total {
			var l, rest []api.Fragment
			for number := 1; number <= total; number++ {
				if set>>(number-1)&1 != 0 {
					l = append(l, fragment(number, total, 1))
				} else {
					rest = append(rest, fragment(number, total, 1))
				}
			}
			for _, f := range l {
				checkAdd(t, l, fragment(f.Number, total, 2), l, api.ErrTwice)
			}
			for _, f := range rest {
				want := append(slices.Clone(l), f)
				slices.SortFunc(want, func(a, b api.Fragment) int { return a.Number - b.Number })
				checkAdd(t, l, f, want, api.OK)
			}
		}
	}
}

// P17.6: another number of all parts comes ahead of a part that is there.
func TestAddTotals(t *testing.T) {
	l := []api.Fragment{fragment(1, 3, 0), fragment(2, 3, 0)}
	for number := 1; number <= 2; number++ {
		for total := number; total < 3; total++ {
			checkAdd(t, l, fragment(number, total, 1), l, api.ErrOrder)
		}
	}
	for total := 4; total <= 16; total++ {
		for number := 1; number <= total; number++ {
			checkAdd(t, l, fragment(number, total, 1), []api.Fragment{fragment(number, total, 1)}, api.OK)
		}
	}
}

// P17.6: parts without bytes count as parts, and lists without all of them are not joined.
func TestJoin(t *testing.T) {
	for _, l := range [][]api.Fragment{nil, {}, make([]api.Fragment, 1)[:0]} {
		checkJoin(t, l, model{})
	}
	for total := 1; total <= 10; total++ {
		for set := range 1 << total {
			m := model{total: total, parts: map[int]api.Fragment{}}
			for number := 1; number <= total; number++ {
				if set>>(number-1)&1 != 0 {
					m.parts[number] = fragment(number, total, 0)
				}
			}
			checkJoin(t, m.list(), m)
		}
	}
	empty := []api.Fragment{{Number: 1, Total: 3, First: 40}, {Number: 2, Total: 3, Data: []byte{5}}, {Number: 3, Total: 3}}
	if first, b, ok := Join(empty); first != 40 || !bytes.Equal(b, []byte{5}) || !ok {
		t.Errorf("Join of parts without bytes = %d, %x, %v", first, b, ok)
	}
	if first, b, ok := Join([]api.Fragment{{Number: 1, Total: 1, First: 0}}); first != 0 || len(b) != 0 || !ok {
		t.Errorf("Join of one part without bytes = %d, %x, %v", first, b, ok)
	}
}

// P17.7: parts are joined to what was split, in any order and with repetitions.
func TestAnyOrder(t *testing.T) {
	random := rand.New(rand.NewSource(7))
	for _, c := range [][2]int{{0, 1}, {1, 1}, {4, 4}, {5, 4}, {16, 1}, {40, 7}, {100, 7}, {4096, 4096}, {5000, 4096}, {16 * 4096, 4096}} {
		inner := sample(c[0], ofInner)
		messages, e := Split(head, 41, inner, key, 1<<64-3, c[1])
		if e != api.OK {
			t.Fatalf("Split of %d bytes by %d = %d", c[0], c[1], e)
		}
		for range 20 {
			var l []api.Fragment
			var order []int
			seen := map[int]bool{}
			for len(seen) < len(messages) {
				if _, _, ok := Join(l); ok {
					t.Fatalf("the parts %v of %d are joined", order, len(messages))
				}
				i := random.Intn(len(messages))
				order, seen[i] = append(order, i), true
				h, f, e := OpenPart(messages[i], key)
				if h != withNext(head, 53) || e != api.OK {
					t.Fatalf("OpenPart = %v, %d", h, e)
				}
				l, _ = Add(l, f)
			}
			if first, b, ok := Join(l); first != 41 || !bytes.Equal(b, inner) || !ok {
				t.Errorf("%d bytes by %d in the order %v are joined to %d, %.80x, %v", c[0], c[1], order, first, b, ok)
			}
		}
	}
}

// R1: no list makes a function panic.
func TestAnyParts(t *testing.T) {
	odd := []api.Fragment{{}, {Number: -1, Total: -1}, {Number: 1, Total: 1}, {Number: 3, Total: 2}, {Number: math.MaxInt, Total: math.MaxInt}, {Number: 2, Total: 3}}
	for _, a := range odd {
		for _, b := range odd {
			for _, c := range odd {
				Add([]api.Fragment{a, b}, c)
				Join([]api.Fragment{a, b, c})
				Join([]api.Fragment{a})
			}
		}
	}
}

// R2: a list and the bytes of its parts stay as they are, whatever is done with the result.
func TestAddLeavesArgument(t *testing.T) {
	for _, f := range []api.Fragment{fragment(2, 4, 1), fragment(3, 4, 1), fragment(4, 4, 1), fragment(2, 5, 1), fragment(2, 2, 1), fragment(9, 4, 1)} {
		whole := []api.Fragment{fragment(1, 4, 0), fragment(3, 4, 0), {Number: 77}, {Number: 78}}
		kept := fmt.Sprint(whole, f)
		l, _ := Add(whole[:2], f)
		for i := range l {
			clear(l[i].Data[:cap(l[i].Data)])
		}
		clear(l[:cap(l)])
		if fmt.Sprint(whole, f) != kept {
			t.Errorf("the arguments %s became %v", kept, fmt.Sprint(whole, f))
		}
	}
	l := []api.Fragment{{Number: 1, Total: 2, Data: spare([]byte{1})}, {Number: 2, Total: 2, Data: spare([]byte{2})}}
	for range 2 {
		if first, b, ok := Join(l); first != 0 || !bytes.Equal(b, []byte{1, 2}) || !ok {
			t.Errorf("Join = %d, %x, %v", first, b, ok)
		} else {
			clear(b[:cap(b)])
		}
	}
	checkSpare(t, "part", l[0].Data, []byte{1})
	checkSpare(t, "part", l[1].Data, []byte{2})
}
