package pack

import "murmuration/api"

// checkBytes is how many bytes a frame's check has.
const checkBytes = 4

// Check is a text's check; Frame is a body's frame; Unframe is the body of the frame with which a text begins.
func Check(s string) uint32 {
	sum := ^uint32(0)
	for i := range len(s) {
		sum ^= uint32(s[i])
		for range 8 {
			sum = sum>>1 ^ -(sum&1)&0xedb88320
		}
	}
	return ^sum
}

func Frame(body string) (string, api.Errno) {
	if len(body) > api.MaxFrame {
		return "", api.ErrSize
	}
	w := Writer{}
	return w.Text(body).Raw(checkOf(body)).Bytes(), api.OK
}

func Unframe(s string) (string, int, api.Errno) {
	r := Read(s)
	n, e := r.num()
	switch {
	case e != api.OK:
		return "", 0, e
	case n > api.MaxFrame:
		return "", 0, api.ErrSize
	case n+checkBytes > uint64(len(r.left)):
		return "", 0, api.ErrShort
	}
	body := r.cut(int(n))
	if r.cut(checkBytes) != checkOf(body) {
		return "", 0, api.ErrCheck
	}
	return body, len(s) - len(r.left), api.OK
}

// checkOf is a body's check as it stands in a frame.
func checkOf(body string) string {
	sum := Check(body)
	return string([]byte{byte(sum >> 24), byte(sum >> 16), byte(sum >> 8), byte(sum)})
}
