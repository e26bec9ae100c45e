package plane_test

import (
	"fmt"
	"slices"
	"strings"
	"testing"

	"tender/api"
	"tender/plane"
)

// P9: 4 bytes are an operation, and what is left over is one more.
func TestDecode(t *testing.T) {
	for _, c := range []struct {
		s    string
		want []api.Op
	}{
		{"", nil},
		{"\x01", []api.Op{{}}},
		{"\xff\xff", []api.Op{{}}},
		{"\x04\x01\x01", []api.Op{{}}},
		{"\x01\x16\x03\x00", []api.Op{{Kind: api.MakeSet, Name: "w", N: 3}}},
		{"\x05\x0c\xff\x00", []api.Op{{Kind: api.FailPod, Name: "p12", N: -1}}},
		{"\x00\x00\x00\x00\x00", []api.Op{{Name: "a"}, {}}},
		{"\x01\x16\x03\x00\x04\x02", []api.Op{{Kind: api.MakeSet, Name: "w", N: 3}, {}}},
		{"\x02\x19\x80\xff\x01\x02\x03", []api.Op{{Kind: api.Scale, Name: "z", N: -128, Version: 255}, {}}},
		{"\x03\x1a\x7f\x80\x04\xff\x01\x7f", []api.Op{{Kind: api.DropSet, Name: "a", N: 127, Version: 128}, {Kind: api.DropPod, Name: "p255", N: 1, Version: 127}}},
		{"\x06\x7f\x7f\x7f\x07\x80\x80\x80\xff", []api.Op{{Kind: api.Read, Name: "x", N: 127, Version: 127}, {Kind: api.Deliver, Name: "y", N: -128, Version: 128}, {}}},
		{"\x7f\xff\xff\xff\x80\x00\x00\x00\xff\xff\xff\xff", []api.Op{{Kind: 127, Name: "v", N: -1, Version: 255}, {Kind: 128, Name: "a"}, {Kind: 255, Name: "v", N: -1, Version: 255}}},
	} {
		if got := plane.Decode(c.s); !slices.Equal(got, c.want) {
			t.Errorf("Decode(%x) = %+v, want %+v", c.s, got, c.want)
		}
	}
}

// P9: each byte, of each place, says what it says, whatever the others are.
func TestDecodeEveryByte(t *testing.T) {
	letters := "abcdefghijklmnopqrstuvwxyz"
	for b := range 256 {
		n := b
		if b > 127 {
			n = b - 256
		}
		letter, pod := string(letters[b%26]), fmt.Sprintf("p%d", b)
		name := "c"
		if b == 4 || b == 5 {
			name = "p2"
		}
		one := string([]byte{byte(b)})
		for s, want := range map[string]api.Op{
			one + "\x02\x03\x04":      {Kind: uint8(b), Name: name, N: 3, Version: 4},
			"\x01" + one + "\x03\x04": {Kind: 1, Name: letter, N: 3, Version: 4},
			"\x03" + one + "\x03\x04": {Kind: 3, Name: letter, N: 3, Version: 4},
			"\x06" + one + "\x03\x04": {Kind: 6, Name: letter, N: 3, Version: 4},
			"\x04" + one + "\x03\x04": {Kind: 4, Name: pod, N: 3, Version: 4},
			"\x05" + one + "\x03\x04": {Kind: 5, Name: pod, N: 3, Version: 4},
			"\x02\x02" + one + "\x04": {Kind: 2, Name: "c", N: n, Version: 4},
			"\x02\x02\x03" + one:      {Kind: 2, Name: "c", N: 3, Version: b},
		} {
			if got := plane.Decode(s); !slices.Equal(got, []api.Op{want}) {
				t.Errorf("Decode(%x) = %+v, want %+v", s, got, want)
			}
		}
	}
}

// P9: as many as there are.
func TestDecodeMany(t *testing.T) {
	for n := range 200 {
		got := plane.Decode(strings.Repeat("\x0a", n))
		whole, rest := n/4, n%4
		if len(got) != whole+min(rest, 1) {
			t.Fatalf("Decode of %d bytes: %d operations", n, len(got))
		}
		for i, op := range got {
			want := api.Op{Kind: api.Tick, Name: "k", N: 10, Version: 10}
			if i == whole {
				want = api.Op{}
			}
			if op != want {
				t.Errorf("Decode of %d bytes: operation %d is %+v", n, i, op)
			}
		}
	}
}

// P2: who writes into a list of operations writes into nobody else's.
func TestDecodedListsAreTheCallers(t *testing.T) {
	s := "\x01\x16\x03\x00\x05\x0c\xff\x00\x01"
	want := []api.Op{{Kind: 1, Name: "w", N: 3}, {Kind: 5, Name: "p12", N: -1}, {}}
	other := plane.Decode(s)
	spoil(plane.Decode(s))
	if !slices.Equal(other, want) || !slices.Equal(plane.Decode(s), want) {
		t.Errorf("two lists share memory: %+v", other)
	}
}
