package wire

import (
	"bytes"
	"math"
	"strings"
	"testing"

	"ipsecgate/api"
)

// spare returns b with spare capacity that is filled with a mark.
func spare(b ...byte) []byte {
	out := append(bytes.Clone(b), bytes.Repeat([]byte{0xa5}, 16)...)
	return out[:len(b)]
}

// checkSpare fails if b or its spare capacity is no longer as spare made it.
func checkSpare(t *testing.T, b []byte, want ...byte) {
	t.Helper()
	whole := append(bytes.Clone(want), bytes.Repeat([]byte{0xa5}, 16)...)
	if !bytes.Equal(b[:len(b)+16], whole) {
		t.Errorf("the argument became %x", b[:len(b)+16])
	}
}

// P1.1
func TestNumber(t *testing.T) {
	b := []byte{0x81, 0x92, 0xa3, 0xb4, 0xc5, 0xd6, 0xe7, 0xf8, 0x09}
	for _, c := range []struct {
		at, width int
		want      uint64
	}{
		{0, 1, 0x81},
		{0, 2, 0x8192},
		{0, 3, 0x8192a3},
		{0, 4, 0x8192a3b4},
		{0, 5, 0x8192a3b4c5},
		{0, 6, 0x8192a3b4c5d6},
		{0, 7, 0x8192a3b4c5d6e7},
		{0, 8, 0x8192a3b4c5d6e7f8},
		{1, 8, 0x92a3b4c5d6e7f809},
		{7, 2, 0xf809},
		{8, 1, 9},
	} {
		if v, ok := Number(b, c.at, c.width); v != c.want || !ok {
			t.Errorf("Number(%d, %d) = %x, %v", c.at, c.width, v, ok)
		}
	}
}

// P1.1
func TestNumberOutside(t *testing.T) {
	b := spare(1, 2, 3, 4, 5, 6, 7, 8, 9)
	for _, c := range []struct{ at, width int }{
		{0, 0}, {0, 9}, {0, -1}, {0, math.MinInt}, {0, math.MaxInt}, {9, 0},
		{-1, 1}, {-1, 2}, {math.MinInt, 1}, {math.MinInt, 8},
		{2, 8}, {8, 2}, {9, 1}, {10, 1}, {math.MaxInt, 1}, {math.MaxInt, 8}, {math.MaxInt - 7, 8},
	} {
		if v, ok := Number(b, c.at, c.width); v != 0 || ok {
			t.Errorf("Number(%d, %d) = %x, %v", c.at, c.width, v, ok)
		}
	}
	if v, ok := Number(nil, 0, 1); v != 0 || ok {
		t.Errorf("Number of nothing = %x, %v", v, ok)
	}
}

// P1.1
func TestPut(t *testing.T) {
	const v = 0x8192a3b4c5d6e7f8
	all := []byte{0x81, 0x92, 0xa3, 0xb4, 0xc5, 0xd6, 0xe7, 0xf8}
	for width := 1; width <= 8; width++ {
		want := append([]byte{7, 0}, all[8-width:]...)
		if got := Put([]byte{7, 0}, v, width); !bytes.Equal(got, want) {
			t.Errorf("Put of width %d = %x, want %x", width, got, want)
		}
		if got := Put(nil, v, width); !bytes.Equal(got, want[2:]) {
			t.Errorf("Put of width %d behind nothing = %x", width, got)
		}
	}
	if got := Put([]byte{1}, 2, 4); !bytes.Equal(got, []byte{1, 0, 0, 0, 2}) {
		t.Errorf("Put of a small number = %x", got)
	}
}

// P1.1
func TestPutWrongWidth(t *testing.T) {
	for _, width := range []int{0, -1, 9, 64, math.MinInt, math.MaxInt} {
		if got := Put([]byte{7, 8}, math.MaxUint64, width); !bytes.Equal(got, []byte{7, 8}) {
			t.Errorf("Put of width %d = %x", width, got)
		}
		if got := Put(nil, math.MaxUint64, width); len(got) != 0 {
			t.Errorf("Put of width %d behind nothing = %x", width, got)
		}
	}
}

// R2: two results that begin alike do not overwrite each other or the argument.
func TestPutLeavesArgument(t *testing.T) {
	b := spare(1, 2)
	first := Put(b, 3, 1)
	second := Put(b, 4, 1)
	third := Put(first, 5, 1)
	fourth := Put(first, 6, 1)
	for _, c := range []struct {
		got  []byte
		want string
	}{{first, "010203"}, {second, "010204"}, {third, "01020305"}, {fourth, "01020306"}} {
		if Hex(c.got) != c.want {
			t.Errorf("Put = %x, want %s", c.got, c.want)
		}
	}
	same := Put(b, 9, 0)
	checkSpare(t, b, 1, 2)
	same[0] = 9
	first[0] = 9
	checkSpare(t, b, 1, 2)
}

// P1.1
func TestSlice(t *testing.T) {
	b := []byte{1, 2, 3, 4, 5}
	for _, c := range []struct {
		at, n int
		want  []byte
	}{
		{0, 5, []byte{1, 2, 3, 4, 5}}, {0, 1, []byte{1}}, {1, 3, []byte{2, 3, 4}}, {4, 1, []byte{5}},
		{0, 0, nil}, {2, 0, nil}, {5, 0, nil},
	} {
		if got, ok := Slice(b, c.at, c.n); !bytes.Equal(got, c.want) || !ok {
			t.Errorf("Slice(%d, %d) = %x, %v", c.at, c.n, got, ok)
		}
	}
	if got, ok := Slice(nil, 0, 0); len(got) != 0 || !ok {
		t.Errorf("Slice of nothing = %x, %v", got, ok)
	}
}

// P1.1
func TestSliceOutside(t *testing.T) {
	b := spare(1, 2, 3, 4, 5)
	for _, c := range []struct{ at, n int }{
		{-1, 0}, {-1, 1}, {-1, 3}, {math.MinInt, 0}, {math.MinInt, math.MaxInt}, {math.MinInt, math.MinInt},
		{0, -1}, {3, -1}, {5, -1}, {0, math.MinInt}, {math.MaxInt, math.MinInt},
		{0, 6}, {4, 2}, {5, 1}, {6, 0}, {6, 1}, {math.MaxInt, 0}, {math.MaxInt, 1}, {1, math.MaxInt}, {math.MaxInt, math.MaxInt},
	} {
		if got, ok := Slice(b, c.at, c.n); len(got) != 0 || ok {
			t.Errorf("Slice(%d, %d) = %x, %v", c.at, c.n, got, ok)
		}
	}
}

// R2: who appends to a slice does not write into the bytes behind it.
func TestSliceLeavesArgument(t *testing.T) {
	b := spare(1, 2, 3)
	got, _ := Slice(b, 0, 2)
	got[0] = 9
	if more := append(got, 7); len(more) != 3 {
		t.Errorf("appended: %x", more)
	}
	checkSpare(t, b, 1, 2, 3)
}

// P1.2
func TestChecksum(t *testing.T) {
	for _, c := range []struct {
		hex  string
		want int
	}{
		{"", 65535},
		{"0001", 65534},
		{"0100", 65535 - 256},
		{"00", 65535},
		{"01", 65535 - 256},
		{"ff", 255},
		{"000102", 65535 - 0x0201},
		{"0000", 65535},
		{"ffff", 0},
		{"ffffffff", 0},
		{"ffff0001", 65534},
		{"fffeffff0002", 65535 - 1},
		{"fffeff", 65535 - 0xff00 + 1},
		{"00010203040506", 65535 - 0x0c09},
		{"450000730000400040110000c0a80001c0a800c7", 0xb861},
	} {
		b, _ := Unhex(c.hex)
		if got := Checksum(b); got != c.want {
			t.Errorf("Checksum(%s) = %d, want %d", c.hex, got, c.want)
		}
	}
}

// P1.2: a folded sum that is still too great is folded again.
func TestChecksumFoldsTwice(t *testing.T) {
	// 65537 times 65535 is 2^32 - 1: folded, it is 131070, and then 65535.
	b := bytes.Repeat([]byte{255, 255}, 65537)
	if got := Checksum(b); got != 0 {
		t.Errorf("Checksum = %d", got)
	}
	// 3 * 65535 + 4 is 3 * 65536 + 1: folded, it is 4.
	if got := Checksum([]byte{255, 255, 255, 255, 255, 255, 0, 4}); got != 65531 {
		t.Errorf("Checksum = %d", got)
	}
}

// P1.2, R5: the sum does not wrap around in 32 bits.
func TestChecksumOfMuch(t *testing.T) {
	b := bytes.Repeat([]byte{255, 255}, 70000)
	b = append(b, 0x12, 0x34)
	if got := Checksum(b); got != 65535-0x1234 {
		t.Errorf("Checksum = %d", got)
	}
}

// P1.3
func TestCompare(t *testing.T) {
	// In order; each text stands for bytes.
	sorted := []string{"", "\x00", "\x00\x00", "\x00\xff", "\x01", "\x01\x00", "\x01\x00\x00", "\x01\x01", "\x02", "\x7f", "\x80", "\xff", "\xff\x00", "\xff\xff"}
	for i, a := range sorted {
		for j, b := range sorted {
			want := 0
			if i < j {
				want = -1
			} else if i > j {
				want = 1
			}
			if got := Compare([]byte(a), []byte(b)); got != want {
				t.Errorf("Compare(%x, %x) = %d, want %d", a, b, got, want)
			}
			if got := Equal([]byte(a), []byte(b)); got != (i == j) {
				t.Errorf("Equal(%x, %x) = %v", a, b, got)
			}
		}
	}
}

// P1.3, R3
func TestCompareNil(t *testing.T) {
	if !Equal(nil, []byte{}) || !Equal([]byte{}, nil) || !Equal(nil, nil) || Equal(nil, []byte{0}) || Equal([]byte{0}, nil) {
		t.Error("Equal with nil")
	}
	if Compare(nil, []byte{}) != 0 || Compare([]byte{}, nil) != 0 || Compare(nil, nil) != 0 || Compare(nil, []byte{0}) != -1 || Compare([]byte{0}, nil) != 1 {
		t.Error("Compare with nil")
	}
}

// P1.4
func TestHex(t *testing.T) {
	if got := Hex([]byte{0x00, 0x19, 0x2a, 0x3b, 0x4c, 0x5d, 0x6e, 0x7f, 0x80, 0xff}); got != "00192a3b4c5d6e7f80ff" {
		t.Errorf("Hex = %s", got)
	}
	if Hex(nil) != "" || Hex([]byte{}) != "" {
		t.Error("Hex of nothing")
	}
}

// P1.4: each pair of bytes of a text has to be two digits, and nothing else is one.
func TestUnhex(t *testing.T) {
	const lower, upper = "0123456789abcdef", "0123456789ABCDEF"
	value := func(c byte) int {
		return max(strings.IndexByte(lower, c), strings.IndexByte(upper, c))
	}
	for i := range 256 {
		for j := range 256 {
			text := string([]byte{byte(i), byte(j)})
			high, low := value(byte(i)), value(byte(j))
			got, e := Unhex(text)
			if high < 0 || low < 0 {
				if len(got) != 0 || e != api.ErrSyntax {
					t.Errorf("Unhex(%q) = %x, %d", text, got, e)
				}
			} else if len(got) != 1 || int(got[0]) != 16*high+low || e != api.OK {
				t.Errorf("Unhex(%q) = %x, %d", text, got, e)
			}
		}
	}
}

// P1.4
func TestUnhexTexts(t *testing.T) {
	for _, c := range []struct {
		text string
		want []byte
		e    api.Errno
	}{
		{"", nil, api.OK},
		{"0102fFFe", []byte{1, 2, 255, 254}, api.OK},
		{"0", nil, api.ErrLength},
		{"010", nil, api.ErrLength},
		{"g", nil, api.ErrLength},
		{"01g", nil, api.ErrLength},
		{"gg0", nil, api.ErrLength},
		{"é", nil, api.ErrSyntax},
		{"0é", nil, api.ErrLength},
		{"010g", nil, api.ErrSyntax},
		{"01g0", nil, api.ErrSyntax},
		{"g001", nil, api.ErrSyntax},
		{"0x01", nil, api.ErrSyntax},
		{"01 2", nil, api.ErrSyntax},
		{"01\n2", nil, api.ErrSyntax},
	} {
		if got, e := Unhex(c.text); !bytes.Equal(got, c.want) || e != c.e {
			t.Errorf("Unhex(%q) = %x, %d", c.text, got, e)
		}
	}
}

// P1.5
func TestNumberOfPut(t *testing.T) {
	for _, v := range []uint64{0, 1, 255, 256, 0x0123456789abcdef, 1 << 63, math.MaxUint64} {
		for width := 1; width <= 8; width++ {
			want := v << (64 - 8*width) >> (64 - 8*width)
			if got, ok := Number(Put([]byte{1, 2, 3}, v, width), 3, width); got != want || !ok {
				t.Errorf("Number of Put(%x, %d) = %x, %v", v, width, got, ok)
			}
		}
	}
}

// P1.5
func TestChecksumOfChecksum(t *testing.T) {
	b := []byte{}
	for i := range 300 {
		b = append(b, byte(i*i+7), byte(i*151))
		if got := Checksum(Put(b, uint64(Checksum(b)), 2)); got != 0 {
			t.Errorf("Checksum with the checksum of %d bytes = %d", len(b), got)
		}
	}
}

// P1.5
func TestUnhexOfHex(t *testing.T) {
	b := []byte{}
	for i := range 256 {
		b = append(b, byte(i))
		if got, e := Unhex(Hex(b)); !bytes.Equal(got, b) || e != api.OK {
			t.Errorf("Unhex of Hex of %d bytes = %x, %d", len(b), got, e)
		}
	}
}
