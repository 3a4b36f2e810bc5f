package num

import (
	"math"
	"math/big"
	"math/rand"
	"strings"
	"testing"

	"outcry/api"
)

const (
	least    = math.MinInt64
	greatest = math.MaxInt64
)

// edges: the numbers at which 64 bits, their halves and small steps begin or end.
func edges() []int64 {
	list := []int64{0, 1, 2, 3, 7, 9, 10, 63, 64, 127, 128, 255, 256, 9999, 10000, 10001, api.MaxPrice, 3037000499, 3037000500, greatest}
	for shift := 13; shift < 63; shift += 7 {
		list = append(list, 1<<shift-1, 1<<shift, 1<<shift+1)
	}
	list = append(list, 1<<31, 1<<32, 1<<62)
	for _, n := range list {
		list = append(list, -n, -n-1)
	}
	return list
}

// someInt picks an edge, or a number of any length in bits.
func someInt(r *rand.Rand, list []int64) int64 {
	if r.Intn(2) == 0 {
		return list[r.Intn(len(list))]
	}
	return int64(r.Uint64()) >> r.Intn(64)
}

// shortTexts: all texts of up to that many of the signs.
func shortTexts(signs string, most int) []string {
	all, last := []string{""}, []string{""}
	for range most {
		var next []string
		for _, s := range last {
			for i := range len(signs) {
				next = append(next, s+signs[i:i+1])
			}
		}
		all, last = append(all, next...), next
	}
	return all
}

type parseCase struct {
	text string
	most int64
	want int64
	e    api.Errno
}

func checkParse(t *testing.T, name string, parse func(string, int64) (int64, api.Errno), cases []parseCase) {
	t.Helper()
	for _, c := range cases {
		if n, e := parse(c.text, c.most); n != c.want || e != c.e {
			t.Errorf("%s(%q, %d) = %d, %d, want %d, %d", name, c.text, c.most, n, e, c.want, c.e)
		}
	}
}

// numeralOf tells by its own means what a numeral is.
func numeralOf(s string) (*big.Int, bool) {
	n, ok := new(big.Int).SetString(s, 10)
	return n, ok && n.Sign() >= 0 && n.String() == s
}

func TestN1ParseUint(t *testing.T) {
	checkParse(t, "ParseUint", ParseUint, []parseCase{
		{"42", 42, 42, api.OK},
		{"41", 42, 41, api.OK},
		{"43", 42, 0, api.ErrGreat},
		{"100", 42, 0, api.ErrGreat},
		{"0", 0, 0, api.OK},
		{"1", 0, 0, api.ErrGreat},
		{"5", 3, 0, api.ErrGreat},
		{"0", -1, 0, api.ErrGreat},
		{"7", least, 0, api.ErrGreat},
		{"x", -1, 0, api.ErrNumber},
		{"9223372036854775807", greatest, greatest, api.OK},
		{"9223372036854775806", greatest, greatest - 1, api.OK},
		{"9223372036854775807", greatest - 1, 0, api.ErrGreat},
		{"9223372036854775808", greatest, 0, api.ErrGreat},
		{"9223372036854775810", greatest, 0, api.ErrGreat},
		{"18446744073709551616", greatest, 0, api.ErrGreat},
		{"18446744073709551617", 1, 0, api.ErrGreat},
		{"99999999999999999999", 9, 0, api.ErrGreat},
		{"99999999999999999999x", 9, 0, api.ErrNumber},
		{"1" + strings.Repeat("0", 100000), greatest, 0, api.ErrGreat},
		{strings.Repeat("0", 100000), greatest, 0, api.ErrNumber},
		{"", 9, 0, api.ErrNumber},
		{"00", 9, 0, api.ErrNumber},
		{"042", 99, 0, api.ErrNumber},
		{"4 ", 9, 0, api.ErrNumber},
		{" 4", 9, 0, api.ErrNumber},
		{"-1", 9, 0, api.ErrNumber},
		{"-0", 9, 0, api.ErrNumber},
		{"+1", 9, 0, api.ErrNumber},
		{"1.0", 9, 0, api.ErrNumber},
		{"1_0", 99, 0, api.ErrNumber},
		{"0x1", 99, 0, api.ErrNumber},
		{"1e1", 99, 0, api.ErrNumber},
		{"１", 9, 0, api.ErrNumber},
		{"1\x00", 9, 0, api.ErrNumber},
		{"\xff", 9, 0, api.ErrNumber},
	})
	for c := range 256 {
		s := string([]byte{'1', byte(c)})
		want := api.ErrNumber
		if c >= '0' && c <= '9' {
			want = api.OK
		}
		if _, e := ParseUint(s, 99); e != want {
			t.Errorf("ParseUint(%q, 99): %d, want %d", s, e, want)
		}
	}
}

func TestN1ParseUintOfShortTexts(t *testing.T) {
	for _, s := range shortTexts("019/:-+. ", 4) {
		for _, most := range []int64{-1, 0, 9, 90, 999, greatest} {
			want, e := int64(0), api.OK
			if n, ok := numeralOf(s); !ok {
				e = api.ErrNumber
			} else if n.Int64() > most {
				e = api.ErrGreat
			} else {
				want = n.Int64()
			}
			checkParse(t, "ParseUint", ParseUint, []parseCase{{s, most, want, e}})
			if e == api.OK && Print(want) != s {
				t.Errorf("Print(%d) = %q, was read from %q", want, Print(want), s)
			}
		}
	}
}

func TestN1ParseInt(t *testing.T) {
	checkParse(t, "ParseInt", ParseInt, []parseCase{
		{"-7", 7, -7, api.OK},
		{"7", 7, 7, api.OK},
		{"0", 7, 0, api.OK},
		{"0", 0, 0, api.OK},
		{"-1", 1, -1, api.OK},
		{"-10", 10, -10, api.OK},
		{"-8", 7, 0, api.ErrGreat},
		{"8", 7, 0, api.ErrGreat},
		{"-1", 0, 0, api.ErrGreat},
		{"-7", -7, 0, api.ErrGreat},
		{"0", -1, 0, api.ErrGreat},
		{"-9223372036854775807", greatest, -greatest, api.OK},
		{"9223372036854775807", greatest, greatest, api.OK},
		{"-9223372036854775808", greatest, 0, api.ErrGreat},
		{"-18446744073709551615", greatest, 0, api.ErrGreat},
		{"-0", 7, 0, api.ErrNumber},
		{"-0", -1, 0, api.ErrNumber},
		{"-", 7, 0, api.ErrNumber},
		{"", 7, 0, api.ErrNumber},
		{"--7", 7, 0, api.ErrNumber},
		{"+7", 7, 0, api.ErrNumber},
		{"-+7", 7, 0, api.ErrNumber},
		{"-07", 7, 0, api.ErrNumber},
		{"-00", 7, 0, api.ErrNumber},
		{"07", 7, 0, api.ErrNumber},
		{"- 7", 7, 0, api.ErrNumber},
		{"7-", 7, 0, api.ErrNumber},
		{"-7x", 7, 0, api.ErrNumber},
		{"-99999999999999999999x", 7, 0, api.ErrNumber},
	})
}

func TestN1Print(t *testing.T) {
	for _, n := range edges() {
		s := Print(n)
		if s != big.NewInt(n).String() {
			t.Errorf("Print(%d) = %q", n, s)
		}
		if n == least {
			continue
		}
		if back, e := ParseInt(s, greatest); back != n || e != api.OK {
			t.Errorf("ParseInt(Print(%d)) = %d, %d", n, back, e)
		}
	}
	if s := Print(least); s != "-9223372036854775808" {
		t.Errorf("Print of the least int64: %q", s)
	}
}

func TestN2ParsePrice(t *testing.T) {
	for _, c := range []struct {
		text string
		want int64
		e    api.Errno
	}{
		{"0", 0, api.OK},
		{"0.0", 0, api.OK},
		{"0.0000", 0, api.OK},
		{"1", 10000, api.OK},
		{"1.5", 15000, api.OK},
		{"1.50", 15000, api.OK},
		{"1.500", 15000, api.OK},
		{"1.05", 10500, api.OK},
		{"0.0001", 1, api.OK},
		{"12.3456", 123456, api.OK},
		{"99999.9999", 999999999, api.OK},
		{"100000", 1000000000, api.OK},
		{"100000.0", 1000000000, api.OK},
		{"100000.0000", 1000000000, api.OK},
		{"100000.0001", 0, api.ErrGreat},
		{"100000.1", 0, api.ErrGreat},
		{"100001", 0, api.ErrGreat},
		{"1000000", 0, api.ErrGreat},
		{"1844674407370955.1616", 0, api.ErrGreat},
		{"99999999999999999999.5", 0, api.ErrGreat},
		{"1" + strings.Repeat("0", 100000) + ".5", 0, api.ErrGreat},
		{"1" + strings.Repeat("0", 100000) + ".50000", 0, api.ErrNumber},
		{"99999999999999999999.x", 0, api.ErrNumber},
		{"100001.", 0, api.ErrNumber},
		{"100000.00000", 0, api.ErrNumber},
		{"", 0, api.ErrNumber},
		{".", 0, api.ErrNumber},
		{".5", 0, api.ErrNumber},
		{"1.", 0, api.ErrNumber},
		{"01", 0, api.ErrNumber},
		{"00.5", 0, api.ErrNumber},
		{"1.00001", 0, api.ErrNumber},
		{"1.00000", 0, api.ErrNumber},
		{"-1", 0, api.ErrNumber},
		{"-0", 0, api.ErrNumber},
		{"+1", 0, api.ErrNumber},
		{"1,5", 0, api.ErrNumber},
		{"1.5.5", 0, api.ErrNumber},
		{"1..5", 0, api.ErrNumber},
		{"1.-5", 0, api.ErrNumber},
		{"1.+5", 0, api.ErrNumber},
		{" 1", 0, api.ErrNumber},
		{"1 ", 0, api.ErrNumber},
		{"1.5 ", 0, api.ErrNumber},
		{"1.5\x00", 0, api.ErrNumber},
		{"1.５", 0, api.ErrNumber},
		{"1e3", 0, api.ErrNumber},
	} {
		if p, e := ParsePrice(c.text); p != c.want || e != c.e {
			t.Errorf("ParsePrice(%q) = %d, %d, want %d, %d", c.text, p, e, c.want, c.e)
		}
	}
}

// priceOf tells by its own means which price a text is; false: none.
func priceOf(s string) (int64, bool) {
	parts := strings.Split(s, ".")
	if _, ok := numeralOf(parts[0]); !ok || len(parts) > 2 {
		return 0, false
	}
	if len(parts) == 2 && (parts[1] == "" || len(parts[1]) > 4 || strings.Trim(parts[1], "0123456789") != "") {
		return 0, false
	}
	p, _ := new(big.Rat).SetString(s)
	return p.Mul(p, big.NewRat(10000, 1)).Num().Int64(), true
}

func TestN2ParsePriceOfShortTexts(t *testing.T) {
	for _, s := range shortTexts("019.-/", 6) {
		want, ok := priceOf(s)
		e := api.OK
		if !ok {
			e = api.ErrNumber
		} else if want > api.MaxPrice {
			want, e = 0, api.ErrGreat
		}
		if p, got := ParsePrice(s); p != want || got != e {
			t.Fatalf("ParsePrice(%q) = %d, %d, want %d, %d", s, p, got, want, e)
		}
	}
}

func TestN2PrintPrice(t *testing.T) {
	for p, want := range map[int64]string{
		0:            "0",
		1:            "0.0001",
		10:           "0.001",
		100:          "0.01",
		1000:         "0.1",
		1010:         "0.101",
		9999:         "0.9999",
		10000:        "1",
		10001:        "1.0001",
		15000:        "1.5",
		100000:       "10",
		1000000:      "100",
		api.MaxPrice: "100000",
		-1:           "-0.0001",
		-9999:        "-0.9999",
		-10000:       "-1",
		-15000:       "-1.5",
		-100000:      "-10",
		greatest:     "922337203685477.5807",
		least:        "-922337203685477.5808",
	} {
		if s := PrintPrice(p); s != want {
			t.Errorf("PrintPrice(%d) = %q, want %q", p, s, want)
		}
	}
}

func TestN2PricesAreReadAsWritten(t *testing.T) {
	check := func(p int64) {
		s := PrintPrice(p)
		if back, e := ParsePrice(s); back != p || e != api.OK {
			t.Fatalf("ParsePrice(PrintPrice(%d)) = ParsePrice(%q) = %d, %d", p, s, back, e)
		}
	}
	for p := range int64(30000) {
		check(p)
		check(api.MaxPrice - p)
	}
	for p := int64(0); p <= api.MaxPrice; p += 9973 {
		check(p)
	}
}

func TestN3AddAndMul(t *testing.T) {
	r := rand.New(rand.NewSource(3))
	list := edges()
	for range 50000 {
		a, b := someInt(r, list), someInt(r, list)
		checkWhole(t, "Add", Add, a, b, new(big.Int).Add(big.NewInt(a), big.NewInt(b)))
		checkWhole(t, "Mul", Mul, a, b, new(big.Int).Mul(big.NewInt(a), big.NewInt(b)))
	}
	for _, a := range list {
		for _, b := range list {
			checkWhole(t, "Add", Add, a, b, new(big.Int).Add(big.NewInt(a), big.NewInt(b)))
			checkWhole(t, "Mul", Mul, a, b, new(big.Int).Mul(big.NewInt(a), big.NewInt(b)))
		}
	}
}

func checkWhole(t *testing.T, name string, f func(int64, int64) (int64, bool), a, b int64, want *big.Int) {
	t.Helper()
	n, ok := f(a, b)
	if ok != want.IsInt64() || ok && n != want.Int64() || !ok && n != 0 {
		t.Fatalf("%s(%d, %d) = %d, %v, want %v", name, a, b, n, ok, want)
	}
}

func TestN3Edges(t *testing.T) {
	for _, c := range []struct {
		a, b   int64
		sum    int64
		sumOk  bool
		prod   int64
		prodOk bool
	}{
		{2, 3, 5, true, 6, true},
		{-2, 3, 1, true, -6, true},
		{greatest, 0, greatest, true, 0, true},
		{greatest, 1, 0, false, greatest, true},
		{greatest, -1, greatest - 1, true, -greatest, true},
		{least, 0, least, true, 0, true},
		{least, 1, least + 1, true, least, true},
		{least, -1, 0, false, 0, false},
		{least, least, 0, false, 0, false},
		{least, greatest, -1, true, 0, false},
		{greatest, greatest, 0, false, 0, false},
		{1 << 62, 2, 1<<62 + 2, true, 0, false},
		{-1 << 62, 2, -1<<62 + 2, true, least, true},
		{1 << 32, 1 << 32, 1 << 33, true, 0, false},
	} {
		if n, ok := Add(c.a, c.b); n != c.sum || ok != c.sumOk {
			t.Errorf("Add(%d, %d) = %d, %v", c.a, c.b, n, ok)
		}
		if n, ok := Mul(c.a, c.b); n != c.prod || ok != c.prodOk {
			t.Errorf("Mul(%d, %d) = %d, %v", c.a, c.b, n, ok)
		}
	}
}

func TestN3MulDiv(t *testing.T) {
	for _, c := range []struct {
		a, b, c int64
		q, r    int64
		ok      bool
	}{
		{7, 3, 2, 10, 1, true},
		{-7, 3, 2, -11, 1, true},
		{7, -3, 2, -11, 1, true},
		{-7, -3, 2, 10, 1, true},
		{-6, 3, 2, -9, 0, true},
		{-1, 1, greatest, -1, greatest - 1, true},
		{0, -5, 3, 0, 0, true},
		{1 << 62, 6, 4, 6917529027641081856, 0, true},
		{1 << 62, 6, 3, 0, 0, false},
		{1, 1, 0, 0, 0, false},
		{0, 0, 0, 0, 0, false},
		{6, 1, -2, 0, 0, false},
		{least, least, least, 0, 0, false},
		{least, 1, 1, least, 0, true},
		{least, -1, 1, 0, 0, false},
		{least, least, greatest, 0, 0, false},
		{greatest, greatest, greatest, greatest, 0, true},
		{least, greatest, greatest, least, 0, true},
		{6148914691236517205, 3, 2, greatest, 1, true},
		{-6148914691236517205, 3, 2, least, 1, true},
		{-greatest, greatest, greatest - 1, 0, 0, false},
		{9, 8198552921648689607, 4, 0, 0, false},
		{-9, 8198552921648689607, 4, 0, 0, false},
		{least, greatest, greatest - 1, 0, 0, false},
		{least, least, 1, 0, 0, false},
	} {
		if q, r, ok := MulDiv(c.a, c.b, c.c); q != c.q || r != c.r || ok != c.ok {
			t.Errorf("MulDiv(%d, %d, %d) = %d, %d, %v, want %d, %d, %v", c.a, c.b, c.c, q, r, ok, c.q, c.r, c.ok)
		}
	}
}

// checkMulDiv holds MulDiv against numbers without bounds.
func checkMulDiv(t *testing.T, a, b, c int64) {
	t.Helper()
	q, r, ok := MulDiv(a, b, c)
	if c <= 0 {
		if q != 0 || r != 0 || ok {
			t.Fatalf("MulDiv(%d, %d, %d) = %d, %d, %v, want false", a, b, c, q, r, ok)
		}
		return
	}
	product := new(big.Int).Mul(big.NewInt(a), big.NewInt(b))
	// DivMod leaves a rest that is not below 0: with a divisor above 0 that is rounded down.
	want, rest := new(big.Int).DivMod(product, big.NewInt(c), new(big.Int))
	if ok != want.IsInt64() || ok && (q != want.Int64() || r != rest.Int64()) || !ok && (q != 0 || r != 0) {
		t.Fatalf("MulDiv(%d, %d, %d) = %d, %d, %v, want %v, %v", a, b, c, q, r, ok, want, rest)
	}
}

func TestN3MulDivOfManyNumbers(t *testing.T) {
	r := rand.New(rand.NewSource(4))
	list := edges()
	for range 200000 {
		checkMulDiv(t, someInt(r, list), someInt(r, list), someInt(r, list))
	}
	for a := int64(-9); a <= 9; a++ {
		for b := int64(-9); b <= 9; b++ {
			for c := int64(-2); c <= 9; c++ {
				checkMulDiv(t, a, b, c)
			}
		}
	}
}

// TestN3MulDivAtTheBounds: quotients about 2^63 and 2^64, where rounding may leave 64 bits.
func TestN3MulDivAtTheBounds(t *testing.T) {
	r := rand.New(rand.NewSource(5))
	for range 50000 {
		c := int64(r.Uint64()>>3)>>r.Intn(40) + 1
		double := uint(r.Intn(2))
		// So near to c, a lets the quotient go up in small steps as b does.
		a := c<<double + r.Int63n(c)
		bound := new(big.Int).Lsh(big.NewInt(c), 63+double)
		b := bound.Div(bound, big.NewInt(a))
		for range 4 {
			if b.IsInt64() {
				checkMulDiv(t, a, b.Int64(), c)
				checkMulDiv(t, -a, b.Int64(), c)
			}
			b.Sub(b, big.NewInt(1))
		}
	}
}

// withRoom lays bytes into a list with room behind them, all of which is marked.
func withRoom(b []byte) []byte {
	full := make([]byte, len(b)+32)
	for i := range full {
		full[i] = 0xaa
	}
	copy(full, b)
	return full[:len(b)]
}

// checkNew asks whether put leaves what it was given and its room alone, and answers new memory each time.
func checkNew(t *testing.T, name string, head []byte, put func([]byte) []byte) {
	t.Helper()
	b := withRoom(head)
	first, second := put(b), put(b)
	if string(first) != string(second) {
		t.Fatalf("%s: %x, and then %x", name, first, second)
	}
	want := string(second)
	first = first[:cap(first)]
	for i := range first {
		first[i] ^= 0xff
	}
	if string(b) != string(head) || string(b[:cap(b)]) != string(withRoom(head)[:cap(b)]) {
		t.Fatalf("%s wrote into what it was given, or shares it: %x", name, b[:cap(b)])
	}
	if string(second) != want {
		t.Fatalf("%s: two answers share memory", name)
	}
}

func TestN4PutAndGet(t *testing.T) {
	for _, c := range []struct {
		head string
		n    uint64
		size int
		want string
	}{
		{"\x01\x02", 258, 3, "\x01\x02\x00\x01\x02"},
		{"", 258, 2, "\x01\x02"},
		{"", 258, 1, "\x02"},
		{"", 0, 4, "\x00\x00\x00\x00"},
		{"ab", 258, 0, "ab"},
		{"ab", 258, -1, "ab"},
		{"ab", 258, least, "ab"},
		{"", 258, 0, ""},
		{"", 0x0102030405060708, 7, "\x02\x03\x04\x05\x06\x07\x08"},
		{"", 0x0102030405060708, 8, "\x01\x02\x03\x04\x05\x06\x07\x08"},
		{"a", 0x0102030405060708, 9, "a\x01\x02\x03\x04\x05\x06\x07\x08"},
		{"a", math.MaxUint64, greatest, "a\xff\xff\xff\xff\xff\xff\xff\xff"},
	} {
		if b := Put([]byte(c.head), c.n, c.size); string(b) != c.want {
			t.Errorf("Put(%q, %d, %d) = %x, want %x", c.head, c.n, c.size, b, c.want)
		}
	}
	if b := Put(nil, 7, 1); string(b) != "\x07" {
		t.Errorf("Put(nil, 7, 1) = %x", b)
	}
	r := rand.New(rand.NewSource(6))
	for range 2000 {
		n := r.Uint64() >> r.Intn(64)
		for size := 1; size <= 8; size++ {
			want := n << (64 - 8*size) >> (64 - 8*size)
			b := Put(nil, n, size)
			if got, ok := Get(append(b, 0x99), size); got != want || !ok {
				t.Fatalf("Get(Put(%d), %d) = %d, %v, want %d", n, size, got, ok, want)
			}
			if got, ok := Get(b[:size-1], size); got != 0 || ok {
				t.Fatalf("Get(%x, %d) = %d, %v, want false", b[:size-1], size, got, ok)
			}
		}
	}
}

func TestN4Get(t *testing.T) {
	b := []byte{1, 2, 3, 4, 5, 6, 7, 8, 9}
	for _, c := range []struct {
		size int
		want uint64
		ok   bool
	}{
		{1, 1, true}, {2, 0x0102, true}, {3, 0x010203, true}, {8, 0x0102030405060708, true},
		{0, 0, false}, {-1, 0, false}, {least, 0, false}, {9, 0, false}, {greatest, 0, false},
	} {
		if n, ok := Get(b, c.size); n != c.want || ok != c.ok {
			t.Errorf("Get(%x, %d) = %d, %v, want %d, %v", b, c.size, n, ok, c.want, c.ok)
		}
	}
	if n, ok := Get(nil, 1); n != 0 || ok {
		t.Errorf("Get(nil, 1) = %d, %v", n, ok)
	}
	if n, ok := Get(nil, 0); n != 0 || ok {
		t.Errorf("Get(nil, 0) = %d, %v", n, ok)
	}
	if n, ok := Get([]byte{255, 255, 255, 255, 255, 255, 255, 255}, 8); n != math.MaxUint64 || !ok {
		t.Errorf("Get of the greatest number = %d, %v", n, ok)
	}
}

func TestN4PutIsNewMemory(t *testing.T) {
	for _, head := range [][]byte{nil, {1}, {1, 2, 3}} {
		for size := -1; size <= 9; size++ {
			checkNew(t, "Put", head, func(b []byte) []byte { return Put(b, 0x1122334455667788, size) })
		}
	}
}

func TestN5PutVar(t *testing.T) {
	for n, want := range map[int64]string{
		0:          "\x00",
		-1:         "\x01",
		1:          "\x02",
		-2:         "\x03",
		63:         "\x7e",
		-64:        "\x7f",
		64:         "\x80\x01",
		-65:        "\x81\x01",
		8191:       "\xfe\x7f",
		8192:       "\x80\x80\x01",
		1<<62 - 1:  "\xfe\xff\xff\xff\xff\xff\xff\xff\x7f",
		1 << 62:    "\x80\x80\x80\x80\x80\x80\x80\x80\x80\x01",
		greatest:   "\xfe\xff\xff\xff\xff\xff\xff\xff\xff\x01",
		least:      "\xff\xff\xff\xff\xff\xff\xff\xff\xff\x01",
		least + 1:  "\xfd\xff\xff\xff\xff\xff\xff\xff\xff\x01",
		-1<<62 - 1: "\x81\x80\x80\x80\x80\x80\x80\x80\x80\x01",
	} {
		if b := PutVar([]byte("ab"), n); string(b) != "ab"+want {
			t.Errorf("PutVar(ab, %d) = %x, want %x behind it", n, b, want)
		}
		if b := PutVar(nil, n); string(b) != want {
			t.Errorf("PutVar(nil, %d) = %x, want %x", n, b, want)
		}
	}
}

func TestN5NumbersAreReadAsWritten(t *testing.T) {
	r := rand.New(rand.NewSource(7))
	list := edges()
	for i := range 20000 {
		n := someInt(r, list)
		if i < len(list) {
			n = list[i]
		}
		b := PutVar(nil, n)
		for _, behind := range []string{"", "\x00", "\xff\xff"} {
			if back, k := GetVar(append(b[:len(b):len(b)], behind...)); back != n || k != len(b) {
				t.Fatalf("GetVar(%x%x) = %d, %d, want %d, %d", b, behind, back, k, n, len(b))
			}
		}
		for k := range len(b) {
			if back, used := GetVar(b[:k]); back != 0 || used != 0 {
				t.Fatalf("GetVar(%x) = %d, %d, though it ends within", b[:k], back, used)
			}
		}
	}
}

func TestN5GetVar(t *testing.T) {
	nine := strings.Repeat("\xff", 9)
	for _, c := range []struct {
		text string
		n    int64
		k    int
	}{
		{"\x81\x01\x7f", -65, 2},
		{"\x00\x80", 0, 1},
		{"\x01", -1, 1},
		{"\x80\x80\x01", 8192, 3},
		{nine + "\x01\x00", least, 10},
		{"\xfe" + nine[1:] + "\x01", greatest, 10},
		{"", 0, 0},
		{"\x80", 0, 0},
		{"\x80\x00", 0, 0},
		{"\xff\x00", 0, 0},
		{"\x80\x80\x00", 0, 0},
		{"\x81\x80\x00\x01", 0, 0},
		{nine, 0, 0},
		{nine + "\x00", 0, 0},
		{nine + "\x02", 0, 0},
		{nine + "\x7f", 0, 0},
		{nine + "\x80", 0, 0},
		{nine + "\x81\x00", 0, 0},
		{nine + "\x81\x01", 0, 0},
		{strings.Repeat("\x80", 9) + "\x81\x01", 0, 0},
		{strings.Repeat("\x80", 100000) + "\x01", 0, 0},
	} {
		if n, k := GetVar([]byte(c.text)); n != c.n || k != c.k {
			t.Errorf("GetVar(%x) = %d, %d, want %d, %d", c.text, n, k, c.n, c.k)
		}
	}
}

// TestN5WhatIsReadIsWrittenAgain: of all short bytes, and of many long ones, GetVar takes none that PutVar would not write.
func TestN5WhatIsReadIsWrittenAgain(t *testing.T) {
	check := func(b []byte) {
		n, k := GetVar(b)
		if k < 0 || k > 10 || k > len(b) || k == 0 && n != 0 {
			t.Fatalf("GetVar(%x) = %d, %d", b, n, k)
		}
		if k > 0 && string(PutVar(nil, n)) != string(b[:k]) {
			t.Fatalf("GetVar(%x) = %d, %d, but PutVar writes %x", b, n, k, PutVar(nil, n))
		}
		if k == 0 && len(b) > 0 && b[0] < 0x80 {
			t.Fatalf("GetVar(%x) takes no number of one byte", b)
		}
	}
	for i := range 1 << 16 {
		check([]byte{byte(i >> 8), byte(i)})
	}
	r := rand.New(rand.NewSource(8))
	for range 50000 {
		b := make([]byte, r.Intn(13))
		for i := range b {
			b[i] = byte(r.Intn(256))
			if r.Intn(4) > 0 {
				b[i] |= 0x80
			} else if r.Intn(2) == 0 {
				b[i] &= 1
			}
		}
		check(b)
	}
}

func TestN5PutVarIsNewMemory(t *testing.T) {
	for _, head := range [][]byte{nil, {1}, {1, 2, 3}} {
		for _, n := range []int64{0, -1, 64, greatest, least} {
			checkNew(t, "PutVar", head, func(b []byte) []byte { return PutVar(b, n) })
		}
	}
}

func TestN6Sum(t *testing.T) {
	for _, c := range []struct {
		lists [][]byte
		want  int
	}{
		{nil, 0},
		{[][]byte{nil}, 0},
		{[][]byte{{}, nil, {}}, 0},
		{[][]byte{{7}}, 7},
		{[][]byte{{255}}, 255},
		{[][]byte{{255, 1}}, 0},
		{[][]byte{{200, 100}}, 44},
		{[][]byte{{200}, {100}}, 44},
		{[][]byte{{1, 2}, nil, {3}, {4, 5, 6}}, 21},
		{[][]byte{{255, 255, 255}, {255}}, 252},
	} {
		if n := Sum(c.lists...); n != c.want {
			t.Errorf("Sum(%v) = %d, want %d", c.lists, n, c.want)
		}
	}
	if n := Sum(); n != 0 {
		t.Errorf("Sum() = %d", n)
	}
	if n := Sum([]byte(strings.Repeat("\xff", 100001))); n != 100001*255%256 {
		t.Errorf("Sum of a long list = %d", n)
	}
}

// crcByTheWords goes through the bits one by one, as the chapter tells it.
func crcByTheWords(b []byte) uint32 {
	crc := ^uint32(0)
	for _, c := range b {
		for bit := range 8 {
			differs := uint32(c>>bit)&1 != crc&1
			crc >>= 1
			if differs {
				crc ^= 0xEDB88320
			}
		}
	}
	return ^crc
}

func TestN6Crc(t *testing.T) {
	for s, want := range map[string]uint32{
		"":          0,
		"\x00":      0xD202EF8D,
		"\xff":      0xFF000000,
		"a":         0xE8B7BE43,
		"123456789": 0xCBF43926,
	} {
		if n := Crc([]byte(s)); n != want {
			t.Errorf("Crc(%q) = %X, want %X", s, n, want)
		}
	}
	if n := Crc(nil); n != 0 {
		t.Errorf("Crc(nil) = %X", n)
	}
	r := rand.New(rand.NewSource(9))
	for range 2000 {
		b := make([]byte, r.Intn(80))
		r.Read(b)
		if Crc(b) != crcByTheWords(b) {
			t.Fatalf("Crc(%x) = %X, want %X", b, Crc(b), crcByTheWords(b))
		}
	}
}

// TestN6CrcTellsWhatIsTurned: up to 32 bits that stand together, each byte's lowest bit first.
func TestN6CrcTellsWhatIsTurned(t *testing.T) {
	r := rand.New(rand.NewSource(10))
	b := make([]byte, 40)
	r.Read(b)
	was := Crc(b)
	for at := range 8 * len(b) {
		for range 20 {
			spoilt := append([]byte(nil), b...)
			turned := r.Uint32()>>r.Intn(32) | 1
			for i := 0; i < 32 && at+i < 8*len(b); i++ {
				spoilt[(at+i)/8] ^= byte(turned>>i&1) << ((at + i) % 8)
			}
			if Crc(spoilt) == was {
				t.Fatalf("Crc(%x) is that of %x", spoilt, b)
			}
		}
	}
}

// TestP3ArgumentsAreLeftAlone: who only reads bytes changes neither them nor the room behind.
func TestP3ArgumentsAreLeftAlone(t *testing.T) {
	head := []byte{0x81, 2, 3, 4, 5, 6, 7, 8, 9}
	b := withRoom(head)
	Get(b, 8)
	GetVar(b)
	Sum(b, b[2:], b[:0])
	Crc(b)
	if string(b[:cap(b)]) != string(withRoom(head)[:cap(b)]) {
		t.Errorf("bytes that were handed in are changed: %x", b[:cap(b)])
	}
}

// FuzzTexts: nothing that is read panics, errors come with 0 alone, and what is taken is what the text says (P1, P2, N1, N2).
func FuzzTexts(f *testing.F) {
	for _, s := range []string{"", "0", "-0", "-7", "9223372036854775808", "100000.0001", "1.50", "5."} {
		f.Add(s, int64(7))
	}
	f.Fuzz(func(t *testing.T, s string, most int64) {
		n, e := ParseUint(s, most)
		if whole, ok := numeralOf(s); ok != (e != api.ErrNumber) || e == api.OK && (whole.Cmp(big.NewInt(n)) != 0 || n > most) || e != api.OK && n != 0 {
			t.Errorf("ParseUint(%q, %d) = %d, %d", s, most, n, e)
		}
		if n, e := ParseInt(s, most); e == api.OK && (Print(n) != s || n > most || n < -most) || e != api.OK && n != 0 {
			t.Errorf("ParseInt(%q, %d) = %d, %d", s, most, n, e)
		}
		if p, e := ParsePrice(s); e == api.OK && (p < 0 || p > api.MaxPrice) || e != api.OK && p != 0 {
			t.Errorf("ParsePrice(%q) = %d, %d", s, p, e)
		}
	})
}
