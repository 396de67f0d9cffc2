package files

import "murmuration/api"

// content is bytes that are laid one behind another.
type content struct{ laid []byte }

func (c *content) lay(parts []string) {
	for _, part := range parts {
		c.laid = append(c.laid, part...)
	}
}

func (c *content) cut(size int) { c.laid = c.laid[:size] }
func (c *content) size() int    { return len(c.laid) }
func (c *content) text() string { return string(c.laid) }

// file is bytes of which the first ones are firm.
type file struct {
	content
	firm int
}

func (f *file) loose() int { return f.size() - f.firm }
func (f *file) settle()    { f.firm = f.size() }

// stays is how many of so many loose bytes a pick leaves. The least integer is no exception: one is added ahead of turning the sign.
func stays(pick, loose int) int {
	if pick < 0 {
		pick = -(pick + 1)
	}
	return pick % (loose + 1)
}

func isName(s string) bool {
	if s == "" || len(s) > api.MaxName {
		return false
	}
	for i := range len(s) {
		if !inNames(s[i]) {
			return false
		}
	}
	return true
}

func inNames(b byte) bool {
	return 'a' <= b && b <= 'z' || '0' <= b && b <= '9' || b == '.' || b == '-'
}
