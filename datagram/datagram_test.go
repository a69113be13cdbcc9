package datagram_test

import (
	"encoding/binary"
	"strings"
	"testing"

	"tempo/api"
	"tempo/datagram"
)

func withTime(ahead string, time uint64, behind string) string {
	return ahead + string(binary.BigEndian.AppendUint64(nil, time)) + behind
}

func wantRefused(t *testing.T, text string) {
	t.Helper()
	if d, ok := datagram.Parse(text); ok || d != (datagram.Datagram{}) {
		t.Errorf("Parse(%.40q) = %+v, %v, want a refusal", text, d, ok)
	}
}

func TestParseReadsEachKind(t *testing.T) {
	for text, want := range map[string]datagram.Datagram{
		"\x01\x00\x00\x00\x00\x00\x00\x00\x00\x00\x00\x00\x00": {Kind: datagram.Event},
		"\x01\x03\x01\x02\x03\x04\x05\x06\x07\x08\x09\x0a\xf0": {Kind: datagram.Event, Source: 3, Number: 0x0102, Time: 0x030405060708090a, Set: 0xf0},
		"\x01\xff\xff\xff\x40\x00\x00\x00\x00\x00\x00\x00\xff": {Kind: datagram.Event, Source: 255, Number: 65535, Time: api.MaxTime, Set: 255},
		"\x02\x00\x00\x00\x00\x00\x00\x00\x00\x00":             {Kind: datagram.Mark},
		"\x02\x04\x00\x00\x00\x00\x00\x00\x01\x00":             {Kind: datagram.Mark, Source: 4, Time: 256},
		"\x02\xff\x40\x00\x00\x00\x00\x00\x00\x00":             {Kind: datagram.Mark, Source: 255, Time: api.MaxTime},
		"\x03\x00": {Kind: datagram.Close},
		"\x03\xff": {Kind: datagram.Close, Source: 255},
	} {
		if got, ok := datagram.Parse(text); !ok || got != want {
			t.Errorf("Parse(%q) = %+v, %v, want %+v", text, got, ok, want)
		}
	}
}

func TestParseRefusesTimesAboveTheGreatest(t *testing.T) {
	for _, time := range []uint64{api.MaxTime + 1, api.MaxTime + 1<<32, 1<<63 - 1, 1 << 63, 1<<63 + 1, 1<<63 + 5, 1<<64 - 1} {
		wantRefused(t, withTime("\x01\x00\x00\x01", time, "\x01"))
		wantRefused(t, withTime("\x02\x00", time, ""))
	}
}

func TestParseRefusesOtherLengths(t *testing.T) {
	lengths := map[byte]int{1: 13, 2: 10, 3: 2}
	for first := range 256 {
		for length := 1; length <= 40; length++ {
			text := string([]byte{byte(first)}) + strings.Repeat("\x00", length-1)
			if lengths[byte(first)] != length {
				wantRefused(t, text)
			} else if d, ok := datagram.Parse(text); !ok || d != (datagram.Datagram{Kind: byte(first)}) {
				t.Errorf("Parse(%q) = %+v, %v", text, d, ok)
			}
		}
	}
	wantRefused(t, "")
	for _, first := range []string{"\x00", "\x01", "\x02", "\x03", "\xff"} {
		wantRefused(t, strings.Repeat(first, 10_000_000))
	}
}
