// Package names: what a variable or a field may be called. See W2 in DOC.md.
package names

// Plain tells whether a text is a name of at most so many signs.
func Plain(s string, most int) bool {
	if len(s) < 1 || len(s) > most || !letter(s[0]) {
		return false
	}
	for _, sign := range []byte(s) {
		if !letter(sign) && !digit(sign) {
			return false
		}
	}
	return true
}

func letter(sign byte) bool { return sign >= 'a' && sign <= 'z' }

func digit(sign byte) bool { return sign >= '0' && sign <= '9' }
