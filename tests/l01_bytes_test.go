package tests

import (
	"bytes"
	"math"
	"strings"
	"testing"

	"loop.example/g00293/impl"
)

// spareByte fills the room behind a list, so that a write there shows.
const spareByte = 0xEE

// roomy answers the bytes of s with spare room behind them.
func roomy(s string) []byte {
	whole := bytes.Repeat([]byte{spareByte}, len(s)+64)
	copy(whole, s)
	return whole[:len(s)]
}

func wantRoomy(t *testing.T, what string, b []byte, s string) {
	t.Helper()
	if string(b) != s {
		t.Errorf("%s: argument is %q, was %q", what, b, s)
	}
	for i, x := range b[:cap(b)][len(b):] {
		if x != spareByte {
			t.Errorf("%s: spare room behind the argument was written at %d", what, i)
		}
	}
}

// scribble writes over all that can be reached by a list.
func scribble(b []byte) {
	for i := range b[:cap(b)] {
		b[:cap(b)][i] ^= 0x55
	}
}

type numCase struct {
	n     int
	bytes string
}

var numCases = []numCase{
	{0, "\x00"},
	{1, "\x01"},
	{5, "\x05"},
	{127, "\x7f"},
	{128, "\x80\x01"},
	{129, "\x81\x01"},
	{255, "\xff\x01"},
	{256, "\x80\x02"},
	{300, "\xac\x02"},
	{16383, "\xff\x7f"},
	{16384, "\x80\x80\x01"},
	{2097151, "\xff\xff\x7f"},
	{2097152, "\x80\x80\x80\x01"},
	{268435455, "\xff\xff\xff\x7f"},
	{268435456, "\x80\x80\x80\x80\x01"},
	{impl.MaxNum - 1, "\xfe\xff\xff\xff\x07"},
	{impl.MaxNum, "\xff\xff\xff\xff\x07"},
}

func TestLimitsOfBytes(t *testing.T) {
	if impl.MaxNum != 2147483647 || impl.MaxText != 40 {
		t.Fatal(impl.MaxNum, impl.MaxText)
	}
}

func TestPutNumWritesTheOneForm(t *testing.T) {
	for _, c := range numCases {
		for _, head := range []string{"", "\x00", "\x80", "ab\xff"} {
			got := impl.PutNum([]byte(head), c.n)
			if string(got) != head+c.bytes {
				t.Errorf("PutNum(%q, %d) = %q", head, c.n, got)
			}
		}
		if got := impl.PutNum(nil, c.n); string(got) != c.bytes {
			t.Errorf("PutNum(nil, %d) = %q", c.n, got)
		}
	}
}

func TestPutNumOutOfRangeIsTheBytesAlone(t *testing.T) {
	for _, n := range []int{-1, -2, -128, impl.MaxNum + 1, impl.MaxNum + 2, 1 << 35, math.MinInt, math.MaxInt} {
		for _, head := range []string{"", "\x07", "abc"} {
			if got := impl.PutNum([]byte(head), n); string(got) != head {
				t.Errorf("PutNum(%q, %d) = %q", head, n, got)
			}
		}
		if got := impl.PutNum(nil, n); len(got) != 0 {
			t.Errorf("PutNum(nil, %d) = %q", n, got)
		}
	}
}

func TestGetNumReadsWhatWasPut(t *testing.T) {
	for _, c := range numCases {
		for _, head := range []string{"", "\x80", "ab", "\xff\xff"} {
			for _, tail := range []string{"", "\x00", "\xff", "xyz", "\x80\x80\x80\x80\x80"} {
				b := []byte(head + c.bytes + tail)
				n, next := impl.GetNum(b, len(head))
				if n != c.n || next != len(head)+len(c.bytes) {
					t.Errorf("GetNum(%q, %d) = %d, %d", b, len(head), n, next)
				}
			}
		}
	}
}

func TestNumbersComeBack(t *testing.T) {
	try := func(n int) {
		b := impl.PutNum([]byte{9, 200}, n)
		got, next := impl.GetNum(append(b, 0, 255), 2)
		if got != n || next != len(b) {
			t.Fatalf("%d comes back as %d, %d from %q", n, got, next, b)
		}
	}
	for n := 0; n <= 70000; n++ {
		try(n)
	}
	for n := 0; n <= impl.MaxNum; n += 104729 {
		try(n)
	}
	for bit := 0; bit < 31; bit++ {
		try(1 << bit)
		try(1<<bit - 1)
		try(impl.MaxNum - 1<<bit)
		try(impl.MaxNum - 1<<bit + 1)
	}
}

func wantNoNum(t *testing.T, b []byte, at int) {
	t.Helper()
	if n, next := impl.GetNum(b, at); n != 0 || next != -1 {
		t.Errorf("GetNum(%q, %d) = %d, %d", b, at, n, next)
	}
}

func TestGetNumAtWrongPlaces(t *testing.T) {
	for _, b := range [][]byte{nil, {}, {5}, {5, 6, 7}, []byte("\xff\xff\xff\xff\x07")} {
		for _, at := range []int{-1, -2, -len(b) - 1, math.MinInt, len(b), len(b) + 1, len(b) + 1000, math.MaxInt} {
			wantNoNum(t, b, at)
		}
	}
	if n, next := impl.GetNum([]byte{5, 6, 7}, 2); n != 7 || next != 3 {
		t.Errorf("last byte: %d, %d", n, next)
	}
}

func TestGetNumOfWrongBytes(t *testing.T) {
	wrong := []string{
		// not all there
		"", "\x80", "\xff", "\x80\x80", "\xff\xff\xff", "\xff\xff\xff\xff", "\x80\x80\x80\x80",
		// more than five
		"\x80\x80\x80\x80\x80", "\x80\x80\x80\x80\x80\x01", "\x81\x80\x80\x80\x80\x00", "\xff\xff\xff\xff\xff\x01", "\xff\xff\xff\xff\x87\x01",
		"\x80\x80\x80\x80\x80\x80\x80\x80\x80\x01", "\xff\xff\xff\xff\xff\xff\xff\xff\xff\x01",
		// the last of several is 0
		"\x80\x00", "\x81\x00", "\xff\x00", "\x80\x80\x00", "\xff\xff\xff\x00", "\x80\x80\x80\x80\x00", "\xff\xff\xff\xff\x00",
		// above MaxNum
		"\x80\x80\x80\x80\x08", "\xff\xff\xff\xff\x08", "\xff\xff\xff\xff\x0f", "\x80\x80\x80\x80\x10", "\xff\xff\xff\xff\x7f", "\x80\x80\x80\x80\x40",
	}
	for _, w := range wrong {
		wantNoNum(t, []byte(w), 0)
		wantNoNum(t, []byte("\x01\x80"+w), 2)
	}
	for _, w := range []string{"\x80\x00", "\xff\xff\xff\xff\x08", "\x80\x80\x80\x80\x80\x01"} {
		wantNoNum(t, []byte(w+"\x01\x01"), 0)
	}
}

func TestGetNumReadsNothingBehindTheLength(t *testing.T) {
	b := []byte{0x80, 1}
	wantNoNum(t, b[:1], 0)
	wantNoNum(t, b[:0], 0)
	wantNoNum(t, b[:1], 1)
}

// checkNumForm: what is read as a number is just the bytes of it.
func checkNumForm(t *testing.T, b []byte, at int) {
	t.Helper()
	n, next := impl.GetNum(b, at)
	if next == -1 {
		if n != 0 {
			t.Fatalf("GetNum(%q, %d) = %d, %d", b, at, n, next)
		}
		return
	}
	if next <= at || next > len(b) || n < 0 || n > impl.MaxNum || string(impl.PutNum(nil, n)) != string(b[at:next]) {
		t.Fatalf("GetNum(%q, %d) = %d, %d, whose bytes are %q", b, at, n, next, impl.PutNum(nil, n))
	}
}

// eachBytes calls f with all lists of size bytes out of choice.
func eachBytes(size int, choice []byte, f func([]byte)) {
	b := make([]byte, size)
	var fill func(at int)
	fill = func(at int) {
		if at == size {
			f(b)
			return
		}
		for _, x := range choice {
			b[at] = x
			fill(at + 1)
		}
	}
	fill(0)
}

func TestBytesThatAreReadAreJustTheNumbers(t *testing.T) {
	for x := 0; x < 256; x++ {
		for y := 0; y < 256; y++ {
			checkNumForm(t, []byte{byte(x), byte(y)}, 0)
			checkNumForm(t, []byte{byte(x), byte(y)}, 1)
		}
	}
	for size := 0; size <= 6; size++ {
		eachBytes(size, []byte{0, 1, 7, 8, 127, 128, 129, 255}, func(b []byte) {
			checkNumForm(t, b, 0)
		})
	}
}

func textOf(size int) []byte {
	t := make([]byte, size)
	for i := range t {
		t[i] = byte(i*37 + size)
	}
	return t
}

func TestPutTextCountsAhead(t *testing.T) {
	for size := 0; size <= impl.MaxText; size++ {
		text := textOf(size)
		want := "hd" + string([]byte{byte(size)}) + string(text)
		if got := impl.PutText([]byte("hd"), text); string(got) != want {
			t.Errorf("PutText of %d bytes = %q", size, got)
		}
		if got := impl.PutText(nil, text); string(got) != want[2:] {
			t.Errorf("PutText(nil) of %d bytes = %q", size, got)
		}
	}
	if got := impl.PutText(nil, nil); string(got) != "\x00" {
		t.Errorf("PutText(nil, nil) = %q", got)
	}
}

func TestPutTextOfTooMuchIsTheBytesAlone(t *testing.T) {
	for _, size := range []int{impl.MaxText + 1, impl.MaxText + 2, 127, 128, 1000} {
		for _, head := range []string{"", "\x01", "head"} {
			if got := impl.PutText([]byte(head), textOf(size)); string(got) != head {
				t.Errorf("PutText(%q, %d bytes) = %q", head, size, got)
			}
		}
	}
}

func TestTextsComeBack(t *testing.T) {
	for size := 0; size <= impl.MaxText; size++ {
		for _, head := range []string{"", "\x80", "ab\x29"} {
			for _, tail := range []string{"", "\x00", "\xff\x01", strings.Repeat("z", 50)} {
				text := textOf(size)
				put := impl.PutText([]byte(head), text)
				got, next := impl.GetText(append(put, tail...), len(head))
				if !bytes.Equal(got, text) || next != len(put) {
					t.Errorf("%q comes back as %q, %d", text, got, next)
				}
			}
		}
	}
}

func wantNoText(t *testing.T, b []byte, at int) {
	t.Helper()
	if text, next := impl.GetText(b, at); len(text) != 0 || next != -1 {
		t.Errorf("GetText(%q, %d) = %q, %d", b, at, text, next)
	}
}

func TestGetTextAtWrongPlaces(t *testing.T) {
	for _, b := range [][]byte{nil, {}, {0}, {2, 'a', 'b'}} {
		for _, at := range []int{-1, -2, -len(b) - 1, math.MinInt, len(b), len(b) + 1, len(b) + 1000, math.MaxInt} {
			wantNoText(t, b, at)
		}
	}
	if text, next := impl.GetText([]byte{2, 'a', 0}, 2); len(text) != 0 || next != 3 {
		t.Errorf("empty text at the end: %q, %d", text, next)
	}
}

func TestGetTextOfWrongBytes(t *testing.T) {
	long := strings.Repeat("x", 400)
	wrong := []string{
		// the count is no number
		"", "\x80", "\x80\x00", "\x82\x00ab", "\x82\x80\x80\x80\x80\x00ab", "\xff\xff\xff\xff\x08" + long,
		// the text is shorter than its count
		"\x01", "\x02a", "\x03ab", "\x28" + strings.Repeat("x", 39), "\xff\xff\xff\xff\x07", "\xff\xff\xff\xff\x07ab",
		// more than MaxText
		"\x29" + long[:41], "\x29" + long, "\x7f" + long, "\x80\x01" + long, "\xac\x02" + long,
	}
	for _, w := range wrong {
		wantNoText(t, []byte(w), 0)
		wantNoText(t, []byte("\x01\x01"+w), 2)
	}
}

func TestGetTextReadsNothingBehindTheLength(t *testing.T) {
	b := []byte("\x03abc")
	for size := 0; size < len(b); size++ {
		wantNoText(t, b[:size], 0)
	}
}

func TestBytesThatAreReadAreJustTheTexts(t *testing.T) {
	check := func(b []byte) {
		text, next := impl.GetText(b, 0)
		if next == -1 {
			if len(text) != 0 {
				t.Fatalf("GetText(%q, 0) = %q, -1", b, text)
			}
			return
		}
		if next < 1 || next > len(b) || string(impl.PutText(nil, text)) != string(b[:next]) {
			t.Fatalf("GetText(%q, 0) = %q, %d", b, text, next)
		}
	}
	tail := textOf(200)
	for x := 0; x < 256; x++ {
		for y := 0; y < 256; y++ {
			check(append([]byte{byte(x), byte(y)}, tail...))
		}
	}
	for size := 0; size <= 5; size++ {
		eachBytes(size, []byte{0, 1, 2, 3, 4, 5, 40, 41, 128, 129, 130}, check)
	}
}

func TestFold(t *testing.T) {
	cases := [][2]int{
		{0, 0}, {1, 2}, {2, 4}, {3, 6}, {-1, 1}, {-2, 3}, {-3, 5}, {100, 200}, {-100, 199},
		{1073741823, 2147483646}, {1073741822, 2147483644},
		{-1073741824, impl.MaxNum}, {-1073741823, 2147483645},
		{1073741824, -1}, {-1073741825, -1}, {1 << 40, -1}, {-1 << 40, -1},
		{math.MaxInt, -1}, {math.MinInt, -1}, {1 << 62, -1}, {-1 << 62, -1}, {1<<62 + 5, -1},
	}
	for _, c := range cases {
		if got := impl.Fold(c[0]); got != c[1] {
			t.Errorf("Fold(%d) = %d, not %d", c[0], got, c[1])
		}
	}
}

func TestUnfold(t *testing.T) {
	cases := [][2]int{
		{0, 0}, {1, -1}, {2, 1}, {3, -2}, {4, 2}, {5, -3}, {199, -100}, {200, 100},
		{impl.MaxNum, -1073741824}, {impl.MaxNum - 1, 1073741823}, {impl.MaxNum - 2, -1073741823},
		{impl.MaxNum + 1, 0}, {impl.MaxNum + 2, 0}, {-1, 0}, {-2, 0}, {-3, 0}, {1 << 40, 0},
		{math.MaxInt, 0}, {math.MinInt, 0}, {math.MinInt + 1, 0},
	}
	for _, c := range cases {
		if got := impl.Unfold(c[0]); got != c[1] {
			t.Errorf("Unfold(%d) = %d, not %d", c[0], got, c[1])
		}
	}
}

func TestSignedNumbersComeBack(t *testing.T) {
	try := func(n int) {
		if f := impl.Fold(n); f < 0 || f > impl.MaxNum || impl.Unfold(f) != n {
			t.Fatalf("%d folds to %d, which unfolds to %d", n, f, impl.Unfold(f))
		}
	}
	for n := -70000; n <= 70000; n++ {
		try(n)
	}
	for n := -1073741824; n <= 1073741823; n += 104729 {
		try(n)
		try(-n - 1)
	}
	for n := 0; n <= impl.MaxNum; n += 104729 {
		if got := impl.Fold(impl.Unfold(n)); got != n {
			t.Fatalf("%d unfolds to %d, which folds to %d", n, impl.Unfold(n), got)
		}
	}
}

func TestWrap(t *testing.T) {
	const low, high = -1 << 62, 1<<62 - 1
	cases := [][2]int{
		{0, 0}, {1, 1}, {-1, -1}, {-5, -5}, {1 << 40, 1 << 40}, {-1 << 40, -1 << 40},
		{low, low}, {low + 1, low + 1}, {high, high}, {high - 1, high - 1},
		{low - 1, high}, {high + 1, low}, {low - 2, high - 1}, {high + 2, low + 1},
		{math.MaxInt, -1}, {math.MaxInt - 1, -2}, {math.MinInt, 0}, {math.MinInt + 1, 1},
	}
	for _, c := range cases {
		if got := impl.Wrap(c[0]); got != c[1] {
			t.Errorf("Wrap(%d) = %d, not %d", c[0], got, c[1])
		}
	}
}

func TestWrapGoesWithSumsDifferencesProducts(t *testing.T) {
	list := []int{0, 1, -1, 2, -2, 3, 7, -1000003, 1 << 31, 1<<31 - 1, -1 << 31, 1 << 61, 3 << 60, -3 << 60,
		1 << 62, 1<<62 - 1, 1<<62 + 1, -1 << 62, -1<<62 + 1, -1<<62 - 1,
		math.MaxInt, math.MaxInt - 1, math.MinInt, math.MinInt + 1, 0x123456789abcdef, -0x7edcba987654321}
	for _, a := range list {
		w := impl.Wrap(a)
		if w < -1<<62 || w > 1<<62-1 || uint64(w)<<1 != uint64(a)<<1 || impl.Wrap(w) != w {
			t.Errorf("Wrap(%d) = %d", a, w)
		}
		for _, b := range list {
			v := impl.Wrap(b)
			if impl.Wrap(a+b) != impl.Wrap(w+v) || impl.Wrap(a-b) != impl.Wrap(w-v) || impl.Wrap(a*b) != impl.Wrap(w*v) {
				t.Errorf("Wrap does not go with %d and %d", a, b)
			}
		}
	}
}

func TestPutNumLeavesItsArgumentAlone(t *testing.T) {
	for _, n := range []int{-1, 0, 127, 128, 300, impl.MaxNum, impl.MaxNum + 1} {
		for _, head := range []string{"", "a", "head"} {
			b := roomy(head)
			got := impl.PutNum(b, n)
			wantRoomy(t, "PutNum", b, head)
			scribble(got)
			wantRoomy(t, "PutNum, its answer written over", b, head)
			got = impl.PutNum(b, n)
			want := string(got)
			scribble(b)
			if string(got) != want {
				t.Errorf("PutNum(%q, %d) shares memory with its argument", head, n)
			}
		}
	}
}

func TestPutTextLeavesItsArgumentsAlone(t *testing.T) {
	for _, text := range []string{"", "t", "text", strings.Repeat("m", impl.MaxText), strings.Repeat("m", impl.MaxText+1)} {
		for _, head := range []string{"", "a", "head"} {
			b, x := roomy(head), roomy(text)
			got := impl.PutText(b, x)
			wantRoomy(t, "PutText, bytes", b, head)
			wantRoomy(t, "PutText, text", x, text)
			scribble(got)
			wantRoomy(t, "PutText, bytes, its answer written over", b, head)
			wantRoomy(t, "PutText, text, its answer written over", x, text)
			got = impl.PutText(b, x)
			want := string(got)
			scribble(b)
			scribble(x)
			if string(got) != want {
				t.Errorf("PutText(%q, %q) shares memory with an argument", head, text)
			}
		}
	}
}

func TestPutTextOfPiecesOfOneList(t *testing.T) {
	whole := []byte("abcdef")
	if got := impl.PutText(whole[:2], whole[1:5]); string(got) != "ab\x04bcde" || string(whole) != "abcdef" {
		t.Errorf("PutText of overlapping pieces = %q, beside %q", got, whole)
	}
}

func TestGetLeavesItsArgumentAlone(t *testing.T) {
	for _, s := range []string{"", "\x00", "\x03abcd", "\x05abc", "\x80\x00", "\x28" + strings.Repeat("m", 41)} {
		b := roomy(s)
		impl.GetNum(b, 0)
		got, _ := impl.GetText(b, 0)
		wantRoomy(t, "GetText", b, s)
		scribble(got)
		wantRoomy(t, "GetText, its answer written over", b, s)
		got, _ = impl.GetText(b, 0)
		want := string(got)
		scribble(b)
		if string(got) != want {
			t.Errorf("GetText(%q) shares memory with its argument", s)
		}
	}
}
