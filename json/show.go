package json

import (
	"strconv"

	"murmuration/api"
)

const digits = "0123456789abcdef"

// laid lays a value that is right down behind what there is.
func laid(b []byte, v api.Json) []byte {
	switch v.Kind {
	case api.JsonBool:
		return strconv.AppendBool(b, v.B)
	case api.JsonNumber:
		return strconv.AppendInt(b, v.N, 10)
	case api.JsonText:
		return laidText(b, v.S)
	case api.JsonList:
		return append(laidParts(append(b, '['), v), ']')
	case api.JsonObject:
		return append(laidParts(append(b, '{'), v), '}')
	}
	return append(b, "null"...)
}

func laidParts(b []byte, v api.Json) []byte {
	for i, x := range v.L {
		if i > 0 {
			b = append(b, ',')
		}
		if v.Kind == api.JsonObject {
			b = append(laidText(b, v.Names[i]), ':')
		}
		b = laid(b, x)
	}
	return b
}

func laidText(b []byte, s string) []byte {
	b = append(b, '"')
	for i := range len(s) {
		b = laidByte(b, s[i])
	}
	return append(b, '"')
}

func laidByte(b []byte, c byte) []byte {
	switch {
	case c == '"' || c == '\\':
		return append(b, '\\', c)
	case c < ' ' || c >= 127:
		return append(b, '\\', 'u', '0', '0', digits[c>>4], digits[c&15])
	}
	return append(b, c)
}
