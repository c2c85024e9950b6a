// Package wire: entries, and the bytes that they are.
package wire

import (
	"bytes"

	"tailrace/api"
)

const (
	txnMark     = 16  // on the byte of the Kind: the entry is of a transaction
	moreMark    = 128 // on a byte of a number: another one follows
	numberBits  = 7   // of a number in each of its bytes
	numberBytes = 5   // that MaxNumber needs
	headSize    = 1
	sumSize     = 2
	sumModulus  = 65521
)

// Check an entry.
func Check(e api.Entry) api.Errno {
	switch {
	case e.Kind != api.Data && !isMarker(e):
		return api.ErrKind
	case !inBounds(e.Epoch) || !inBounds(e.Pid) || !inBounds(e.Ver) || !inBounds(e.Seq):
		return api.ErrRange
	case len(e.Text) > api.MaxText:
		return api.ErrSize
	case isMarker(e) && !fitsMarker(e), e.Pid == 0 && !fitsNobody(e):
		return api.ErrForm
	}
	return api.OK
}

func isMarker(e api.Entry) bool { return e.Kind == api.Commit || e.Kind == api.Abort }

func inBounds(n int) bool { return n >= 0 && n <= api.MaxNumber }

// fitsMarker: a marker ends a producer's transaction, and says nothing else.
func fitsMarker(e api.Entry) bool { return e.Pid != 0 && e.Txn && e.Seq == 0 && e.Text == "" }

// fitsNobody: without a producer there is nothing that its numbers could count.
func fitsNobody(e api.Entry) bool { return !e.Txn && e.Ver == 0 && e.Seq == 0 }

// Encode an entry: how long its body is, that, and a sum.
func Encode(e api.Entry) ([]byte, api.Errno) {
	if refused := Check(e); refused != api.OK {
		return nil, refused
	}
	body := encodeBody(e)
	b := make([]byte, 0, headSize+len(body)+sumSize)
	b = append(b, byte(len(body)))
	b = append(b, body...)
	s := sum(body)
	return append(b, byte(s>>8), byte(s)), api.OK
}

func encodeBody(e api.Entry) []byte {
	kind := byte(e.Kind)
	if e.Txn {
		kind += txnMark
	}
	body := []byte{kind}
	for _, n := range [...]int{e.Epoch, e.Pid, e.Ver, e.Seq} {
		body = appendNumber(body, n)
	}
	return append(body, e.Text...)
}

func appendNumber(b []byte, n int) []byte {
	for n >= moreMark {
		b = append(b, byte(n%moreMark)+moreMark)
		n >>= numberBits
	}
	return append(b, byte(n))
}

// sum weighs each byte by its place, so that bytes that change places are told.
func sum(body []byte) int {
	s := 0
	for i, c := range body {
		s += (i + 1) * int(c)
	}
	return s % sumModulus
}

// Decode entries as far as they go: how many bytes these are.
func Decode(b []byte) ([]api.Entry, int) {
	var entries []api.Entry
	at := 0
	for at < len(b) {
		e, size := decodeFirst(b[at:])
		if size == 0 {
			break
		}
		entries = append(entries, e)
		at += size
	}
	return entries, at
}

// decodeFirst: the entry that b, which is not empty, begins with, and its size; 0: there is none.
func decodeFirst(b []byte) (api.Entry, int) {
	size := headSize + int(b[0]) + sumSize
	if size > len(b) {
		return api.Entry{}, 0
	}
	e, ok := decodeBody(b[headSize : size-sumSize])
	if !ok {
		return api.Entry{}, 0
	}
	// Only what Encode writes counts: so numbers that are longer than need be,
	// entries that may not be, and wrong sums are all found in one place.
	same, refused := Encode(e)
	if refused != api.OK || !bytes.Equal(same, b[:size]) {
		return api.Entry{}, 0
	}
	return e, size
}

// decodeBody: what a body says, if its numbers end; whether that may be is not asked here.
func decodeBody(body []byte) (api.Entry, bool) {
	if len(body) == 0 {
		return api.Entry{}, false
	}
	kind, rest := body[0], body[1:]
	var numbers [4]int
	for i := range numbers {
		n, size := decodeNumber(rest)
		if size == 0 {
			return api.Entry{}, false
		}
		numbers[i], rest = n, rest[size:]
	}
	return api.Entry{
		Epoch: numbers[0],
		Pid:   numbers[1],
		Ver:   numbers[2],
		Seq:   numbers[3],
		Kind:  int(kind &^ txnMark),
		Txn:   kind&txnMark != 0,
		Text:  string(rest),
	}, true
}

// decodeNumber: the number that b begins with, and its size; 0: none ends within the bytes that MaxNumber needs.
func decodeNumber(b []byte) (int, int) {
	n := 0
	for i, c := range b[:min(len(b), numberBytes)] {
		n |= int(c&^moreMark) << (numberBits * i)
		if c < moreMark {
			return n, i + 1
		}
	}
	return 0, 0
}
