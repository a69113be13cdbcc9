// Package datagram: what sources send, read from its bytes.
package datagram

import "tempo/api"

// The kinds of datagrams, by their first byte.
const (
	Event byte = 1
	Mark  byte = 2
	Close byte = 3
)

// Datagram is what the bytes say; what its kind does not have is 0.
type Datagram struct {
	Kind   byte
	Source byte
	Number uint16
	Time   int
	Set    byte
}

// Parse reads the whole text as one datagram; it answers false if the text is
// none. It lets every source pass: how many there are, the monitor knows.
func Parse(text string) (Datagram, bool) {
	if text == "" || len(text) != lengthOf(text[0]) {
		return Datagram{}, false
	}
	d := Datagram{Kind: text[0], Source: text[1]}
	time := uint64(0)
	switch d.Kind {
	case Event:
		d.Number, time, d.Set = uint16(number(text[2:4])), number(text[4:12]), text[12]
	case Mark:
		time = number(text[2:10])
	}
	if time > api.MaxTime {
		return Datagram{}, false
	}
	d.Time = int(time)
	return d, true
}

// lengthOf answers 0 for a byte of no kind: no text that has a first byte is
// so long.
func lengthOf(kind byte) int {
	switch kind {
	case Event:
		return 13
	case Mark:
		return 10
	case Close:
		return 2
	}
	return 0
}

// number reads at most eight bytes, the high ones first.
func number(text string) uint64 {
	value := uint64(0)
	for i := range len(text) {
		value = value<<8 | uint64(text[i])
	}
	return value
}
