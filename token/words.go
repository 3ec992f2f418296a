package token

import "strings"

// Each keyword has a blank on both sides.
const keywordList = " actor and as be box break class consume continue do else elseif end error false for fun if ifdef " +
	"in interface is isnt iso let match new not object or primitive recover ref repeat return tag then this trait trn " +
	"true try type until use val var where while with xor "

var symbols = [...]string{
	"<<", ">>", "==", "!=", "<=", ">=", "=>", "->", ".>", "+?", "-?", "*?", "/?", "%?",
	"#read", "#send", "#share", "#alias", "#any",
	"(", ")", "[", "]", "{", "}", ",", ".", ":", ";", "?", "=", "<", ">", "+", "-", "*", "/", "%", "|", "&", "^", "!", "~",
}

func keywordSet() map[string]bool {
	set := map[string]bool{}
	for _, s := range strings.Fields(keywordList) {
		set[s] = true
	}
	return set
}

// isKeyword is for single words, for which a map would be too much work; they have no blanks.
func isKeyword(word string) bool {
	return strings.Contains(keywordList, " "+word+" ")
}

func isLetter(b byte) bool {
	return 'a' <= b && b <= 'z' || 'A' <= b && b <= 'Z'
}

func isDigit(b byte) bool {
	return '0' <= b && b <= '9'
}

// isPart reports whether a byte can stand in an identifier, primes aside.
func isPart(b byte) bool {
	return isLetter(b) || isDigit(b) || b == '_'
}

// isWord reports whether a text has the form of an identifier or a keyword, at any length.
func isWord(s string) bool {
	body := strings.TrimRight(s, "'")
	if body == "" || isDigit(body[0]) {
		return false
	}
	for i := range len(body) {
		if !isPart(body[i]) {
			return false
		}
	}
	return true
}

func isSymbol(s string) bool {
	for _, x := range symbols {
		if x == s {
			return true
		}
	}
	return false
}

// isInt reports whether a text is that of an Int: no zero in front, and at most 2^128 - 1.
func isInt(s string) bool {
	if s == "" || s[0] == '0' && s != "0" {
		return false
	}
	var n wide
	for i := range len(s) {
		if !isDigit(s[i]) || !n.push(10, uint64(s[i]-'0')) {
			return false
		}
	}
	return true
}

// isFloat reports whether a text is that of a Float: without `_`, and with `e` for `E`.
func isFloat(s string) bool {
	s, ok := cutDigits(s)
	if !ok {
		return false
	}
	point := strings.HasPrefix(s, ".")
	if point {
		if s, ok = cutDigits(s[1:]); !ok {
			return false
		}
	}
	if !strings.HasPrefix(s, "e") {
		return point && s == ""
	}
	s = s[1:]
	if s != "" && (s[0] == '+' || s[0] == '-') {
		s = s[1:]
	}
	s, ok = cutDigits(s)
	return ok && s == ""
}

// cutDigits returns what stands behind the digits with which a text begins, and whether there are any.
func cutDigits(s string) (string, bool) {
	rest := strings.TrimLeft(s, "0123456789")
	return rest, len(rest) < len(s)
}
