package http

import "strconv"

const digits = "0123456789ABCDEF"

// percent is the byte that a percent at a text's beginning says, with the two digits behind it, and how many bytes these are: none, if they don't follow.
func percent(s string) (byte, int) {
	const size = len("%00")
	if len(s) < size {
		return 0, 0
	}
	n, err := strconv.ParseUint(s[1:size], 16, 8)
	if err != nil {
		return 0, 0
	}
	return byte(n), size
}

// isMade says whether a text is made of at least one byte, and of so many at most, all of them of that sort.
func isMade(s string, most int, sort func(c byte) bool) bool {
	return s != "" && len(s) <= most && areAll(s, sort)
}

func areAll(s string, sort func(c byte) bool) bool {
	for i := range len(s) {
		if !sort(s[i]) {
			return false
		}
	}
	return true
}

func isDigit(c byte) bool   { return c >= '0' && c <= '9' }
func isCapital(c byte) bool { return c >= 'A' && c <= 'Z' }
func isLetter(c byte) bool  { return isCapital(c) || c >= 'a' && c <= 'z' }

func isOfName(c byte) bool   { return isLetter(c) || isDigit(c) || c == '-' }
func isOfTarget(c byte) bool { return c > ' ' && c < 127 }
func isOfValue(c byte) bool  { return isOfTarget(c) || c == ' ' || c == '\t' }

// isBare says whether a byte stands for itself in what is encoded.
func isBare(c byte) bool { return isOfName(c) || c == '.' || c == '_' || c == '~' }
