package impl

import (
	"errors"
	"strconv"
	"strings"
)

const (
	maxNumber   = 999999
	maxPut      = 2147483647
	maxPutBytes = 5
	bitsPerByte = 7
	moreFollow  = 1 << bitsPerByte
)

var errNoNumber = errors.New("no number")

func Digits(n int) string { return strconv.Itoa(n) }

func Number(s string) (int, bool) {
	n := 0
	ok := readable(func() { n = readDigits(s) })
	return n, ok
}

func PutNum(n int) []byte {
	if n < 0 || n > maxPut {
		return nil
	}
	out := make([]byte, 0, maxPutBytes)
	for n >= moreFollow {
		out = append(out, byte(n%moreFollow+moreFollow))
		n /= moreFollow
	}
	return append(out, byte(n))
}

func GetNum(b []byte, at int) (int, int, bool) {
	n, next := 0, 0
	ok := readable(func() { n, next = readNum(b, at) })
	return n, next, ok
}

func PutText(s string) []byte {
	return append(PutNum(len(s)), s...)
}

func GetText(b []byte, at int) (string, int, bool) {
	s, next := "", 0
	ok := readable(func() { s, next = readText(b, at) })
	return s, next, ok
}

func Split(s string, by byte) []string {
	var parts []string
	from := 0
	for i := 0; i < len(s); i++ {
		if s[i] == by {
			parts = append(parts, strings.Clone(s[from:i]))
			from = i + 1
		}
	}
	return append(parts, strings.Clone(s[from:]))
}

// readable lets the readers below panic wherever they stand: what they would
// have assigned stays zero, and the face answers false.
func readable(read func()) (ok bool) {
	defer func() {
		if recover() != nil {
			ok = false
		}
	}()
	read()
	return true
}

func readDigits(s string) int {
	n, err := strconv.Atoi(s)
	// Atoi takes signs and noughts ahead, too; Digits writes none of these.
	if err != nil || n < 0 || n > maxNumber || Digits(n) != s {
		panic(errNoNumber)
	}
	return n
}

func readNum(b []byte, at int) (int, int) {
	n := 0
	for i := range maxPutBytes {
		digit := readByte(b, at)
		at++
		n += (digit % moreFollow) << (i * bitsPerByte)
		if digit >= moreFollow {
			continue
		}
		// A last byte of 0 behind others could have been left away.
		if n > maxPut || digit == 0 && i > 0 {
			panic(errNoNumber)
		}
		return n, at
	}
	panic(errNoNumber)
}

func readByte(b []byte, at int) int {
	if at < 0 || at >= len(b) {
		panic(errNoNumber)
	}
	return int(b[at])
}

func readText(b []byte, at int) (string, int) {
	length, from := readNum(b, at)
	if length > len(b)-from {
		panic(errNoNumber)
	}
	next := from + length
	return string(b[from:next]), next
}
