package http_test

import (
	"fmt"
	"strings"
	"testing"

	"murmuration/api"
	"murmuration/http"
)

// P21.3

func TestTextsAreDecoded(t *testing.T) {
	for s, want := range map[string]string{
		"": "", "a": "a", "a+b c": "a+b c", "%41": "A", "a%2fb": "a/b", "%2F%2f": "//", "%00%ff%FF": "\x00\xff\xff", "%2541": "%41", "%25": "%", "%411": "A1", "1%41%421": "1AB1",
		"\x00\xff\r\n": "\x00\xff\r\n", "%c3%a4\xc3\xa4": "\u00e4\u00e4", "?&=/#": "?&=/#",
	} {
		decodes(t, s, want)
	}
	for _, s := range []string{"%", "%4", "a%", "a%4", "%%", "%%41", "%4%41", "%4g", "%g4", "%G0", "%0G", "%/0", "%:0", "%@0", "%`0", "% 4", "%4 ", "%+4", "%-4", "%0x41", "%x4", "%_4", "%4_", "%\x00\x00", "%\xff\xff", "a%2fb%", "%41%4"} {
		undecoded(t, s)
		undecoded(t, "%41b"+s)
		if !strings.HasSuffix(s, "%") && !strings.HasSuffix(s, "4") {
			undecoded(t, s+"41")
		}
	}
}

func TestEachPercent(t *testing.T) {
	const both = "0123456789abcdefABCDEF"
	for a := range 256 {
		for b := range 256 {
			s := string([]byte{'%', byte(a), byte(b)})
			if strings.IndexByte(both, byte(a)) < 0 || strings.IndexByte(both, byte(b)) < 0 {
				undecoded(t, s)
				continue
			}
			var n byte
			fmt.Sscanf(s, "%%%x", &n)
			decodes(t, "<"+s+">", "<"+string([]byte{n})+">")
		}
	}
}

func TestTextsAreEncoded(t *testing.T) {
	const plain = "ABCDEFGHIJKLMNOPQRSTUVWXYZabcdefghijklmnopqrstuvwxyz0123456789-._~"
	is(t, "plain bytes", http.Encode(plain), plain)
	is(t, "nothing", http.Encode(""), "")
	is(t, "a text", http.Encode("a b/\xff~%41+\u00e4"), "a%20b%2F%FF~%2541%2B%C3%A4")
	for c := range 256 {
		text := string([]byte{byte(c)})
		want := fmt.Sprintf("%%%02X", c)
		if strings.Contains(plain, text) {
			want = text
		}
		is(t, fmt.Sprint("byte ", c), http.Encode(text), want)
		is(t, fmt.Sprint("byte ", c), http.Encode("-"+text+text), "-"+want+want)
	}
}

func TestPairsAreFound(t *testing.T) {
	l := pairs("a", "1", "b", "2", "a", "3", "", "4", "c", "")
	for _, c := range []struct {
		key, value string
		there      bool
	}{{"a", "1", true}, {"b", "2", true}, {"", "4", true}, {"c", "", true}, {"d", "", false}, {"A", "", false}, {"a ", "", false}, {"1", "", false}} {
		v, there := http.Find(l, c.key)
		is(t, fmt.Sprintf("Find %q", c.key), fmt.Sprintf("%q %v", v, there), fmt.Sprintf("%q %v", c.value, c.there))
	}
	for _, empty := range [][]api.Pair{nil, {}} {
		v, there := http.Find(empty, "")
		is(t, "Find in nothing", fmt.Sprintf("%q %v", v, there), `"" false`)
	}
}
