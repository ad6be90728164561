// Package num is layer 1: see shared/doc/01-num.md.
package num

import (
	"strconv"

	"clavier/api"
)

// Text is a number in figures, Take is the number with which bytes begin, and how many these are.
func Text(n int) string {
	if n < 0 {
		return ""
	}
	return strconv.Itoa(n)
}

func Take(b []byte) (int, int) {
	figure := figures(10)
	n, used := 0, 0
	for _, c := range b {
		value, ok := figure(rune(c))
		if !ok {
			break
		}
		// Held down at every figure, so that no row of figures is long enough to wrap round.
		n = min(n*10+value, api.MaxPart)
		used++
	}
	return n, used
}

// Hex are bytes in figures of sixteen, Unhex such figures as bytes.
func Hex(b []byte) string {
	const figure = "0123456789ABCDEF"
	text := make([]byte, 0, 2*len(b))
	for _, c := range b {
		text = append(text, figure[c>>4], figure[c&15])
	}
	return string(text)
}

func Unhex(s string) ([]byte, bool) {
	if len(s)%2 != 0 {
		return nil, false
	}
	figure := figures(16)
	values := make([]byte, 0, len(s))
	for _, c := range s {
		value, ok := figure(c)
		if !ok {
			return nil, false
		}
		values = append(values, byte(value))
	}
	// Every character is a figure, and so a single byte: there are as many values as bytes, an even number.
	b := make([]byte, len(values)/2)
	for i := range len(b) {
		b[i] = values[2*i]<<4 | values[2*i+1]
	}
	return b, true
}

// figures makes a function that tells what a character is worth as a figure of that base, and whether it is one.
func figures(base int) func(c rune) (int, bool) {
	return func(c rune) (int, bool) {
		value := base
		switch {
		case '0' <= c && c <= '9':
			value = int(c - '0')
		case 'A' <= c && c <= 'F':
			value = int(c-'A') + 10
		case 'a' <= c && c <= 'f':
			value = int(c-'a') + 10
		}
		if value >= base {
			return 0, false
		}
		return value, true
	}
}
