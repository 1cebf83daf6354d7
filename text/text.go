// Package text is layer 1: see shared/doc/01-text.md.
package text

import (
	"bytes"
	"iter"
	"strings"

	"quiltmaker/api"
)

// end stands behind every line in bytes, and so within none.
const end byte = 10

// Split are the lines of bytes, Join the bytes of lines.
func Split(b []byte) ([]string, api.Errno) {
	// The length is held first, so that no more bytes than the limit are ever gone through.
	if len(b) > api.MaxBytes || bytes.Count(b, []byte{end}) > api.MaxLines {
		return nil, api.ErrFull
	}
	if len(b) > 0 && b[len(b)-1] != end {
		return nil, api.ErrForm
	}
	var l []string
	for line := range lines(b) {
		if !May(line) {
			return nil, api.ErrForm
		}
		l = append(l, line)
	}
	return l, api.OK
}

func Join(l []string) ([]byte, api.Errno) {
	if !All(l) {
		return nil, api.ErrArg
	}
	var b []byte
	for _, line := range l {
		b = append(b, line...)
		b = append(b, end)
	}
	return b, api.OK
}

// May tells whether a line may be, All whether all may, Name whether a file may be named so.
func May(s string) bool {
	return len(s) <= api.MaxLine && strings.IndexByte(s, end) < 0
}

func All(l []string) bool {
	if len(l) > api.MaxLines {
		return false
	}
	for _, line := range l {
		if !May(line) {
			return false
		}
	}
	return true
}

func Name(s string) bool {
	if len(s) < 1 || len(s) > api.MaxName {
		return false
	}
	for i := range len(s) {
		if !inName(s[i]) {
			return false
		}
	}
	return true
}

func inName(c byte) bool {
	return 'a' <= c && c <= 'z' || '0' <= c && c <= '9' || c == '.'
}

// lines cuts off what stands ahead of each end, one by one; what has no end behind it is no line.
func lines(b []byte) iter.Seq[string] {
	return func(yield func(string) bool) {
		// A rest of its own, so that it can be ranged over once more.
		rest := b
		for {
			i := bytes.IndexByte(rest, end)
			if i < 0 || !yield(string(rest[:i])) {
				return
			}
			rest = rest[i+1:]
		}
	}
}
