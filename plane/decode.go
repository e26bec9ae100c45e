package plane

import (
	"strconv"

	"tender/api"
)

// opBytes: so many bytes are an operation.
const opBytes = 4

// Decode reads operations out of bytes (P9).
func Decode(s string) []api.Op {
	var list []api.Op
	for len(s) >= opBytes {
		list = append(list, decodeOne(s))
		s = s[opBytes:]
	}
	if len(s) > 0 {
		list = append(list, api.Op{Kind: api.None})
	}
	return list
}

func decodeOne(s string) api.Op {
	return api.Op{Kind: s[0], Name: decodeName(s[0], s[1]), N: int(int8(s[2])), Version: int(s[3])}
}

func decodeName(kind, b byte) string {
	if kind == api.DropPod || kind == api.FailPod {
		return "p" + strconv.Itoa(int(b))
	}
	return string(rune('a' + b%26))
}
