package impl

const MaxNum = 2147483647
const MaxText = 40

// A byte of a number has room for seven bits: the eighth one tells that another byte follows.
const bitsPerByte = 7
const moreFollows = 1 << bitsPerByte

// MaxNum has 31 bits, which need five bytes.
const numBytes = 5

// What Fold takes is as much as fits into 0 .. MaxNum.
const maxFolded = MaxNum / 2
const minFolded = -maxFolded - 1

func PutNum(b []byte, n int) []byte {
	if n < 0 || n > MaxNum {
		return joined(b, nil)
	}
	parts, count := numParts(n)
	return joined(b, parts[:count])
}

// numParts answers the bytes of n and how many of them count; n must be in 0 .. MaxNum.
func numParts(n int) ([numBytes]byte, int) {
	var parts [numBytes]byte
	last := 0
	for n >= moreFollows {
		parts[last] = byte(n%moreFollows + moreFollows)
		n /= moreFollows
		last++
	}
	parts[last] = byte(n)
	return parts, last + 1
}

// joined never appends to b in place: the room behind b is not ours to write.
func joined(b []byte, tail []byte) []byte {
	out := make([]byte, len(b)+len(tail))
	copy(out, b)
	copy(out[len(b):], tail)
	return out
}

func GetNum(b []byte, at int) (int, int) {
	if at < 0 {
		return 0, -1
	}
	n := 0
	for i := 0; i < numBytes && i < len(b)-at; i++ {
		part := int(b[at+i])
		n += (part % moreFollows) << (bitsPerByte * i)
		if part >= moreFollows {
			continue
		}
		// A last byte of 0 behind others would be a second way to write n.
		if (part == 0 && i > 0) || n > MaxNum {
			return 0, -1
		}
		return n, at + i + 1
	}
	return 0, -1
}

func PutText(b []byte, t []byte) []byte {
	if len(t) > MaxText {
		return joined(b, nil)
	}
	return joined(PutNum(b, len(t)), t)
}

func GetText(b []byte, at int) ([]byte, int) {
	count, start := GetNum(b, at)
	if start < 0 || count > MaxText || count > len(b)-start {
		return nil, -1
	}
	text := make([]byte, count)
	copy(text, b[start:])
	return text, start + count
}

func Fold(n int) int {
	switch {
	case n < minFolded || n > maxFolded:
		return -1
	case n < 0:
		return -2*n - 1
	}
	return 2 * n
}

func Unfold(n int) int {
	switch {
	case n < 0 || n > MaxNum:
		return 0
	case n%2 == 1:
		return -(n + 1) / 2
	}
	return n / 2
}

// Wrap drops the top bit, and the shift back brings the sign of the one below it.
func Wrap(n int) int {
	return n << 1 >> 1
}
