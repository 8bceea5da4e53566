package attr

import "limelight/api"

// How far a text has been read: ahead of the number, behind its sign, in its digits.
const (
	ahead = iota
	signed
	counting
)

// Index holds the size at MaxValue while it reads: so no text is too long for it, and both ends can be told from it.
func Index(s string) (int, bool) {
	state, sign, size := ahead, 1, 0
read:
	for _, r := range s {
		switch {
		case isDigit(r):
			state = counting
			size = min(size*10+int(r-'0'), api.MaxValue)
		case state == ahead && isSign(r):
			state = signed
			sign = signOf(r)
		case state == ahead && isBlank(r):
		default:
			break read
		}
	}
	if state != counting {
		return 0, false
	}
	return min(sign*size, api.MaxValue-1), true
}

func isDigit(r rune) bool {
	return r >= '0' && r <= '9'
}

func isSign(r rune) bool {
	return r == '-' || r == '+'
}

func signOf(r rune) int {
	if r == '-' {
		return -1
	}
	return 1
}

// isBlank leaves byte 11 out, as the document does.
func isBlank(r rune) bool {
	switch r {
	case ' ', 9, 10, 12, 13:
		return true
	}
	return false
}
