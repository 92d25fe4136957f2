package lex

// blank tells whether a byte is one.
func blank(c rune) bool {
	switch c {
	case 9, 10, 13, 32:
		return true
	}
	return false
}

// scripts tells whether a byte may stand in a script at all.
func scripts(c rune) bool { return blank(c) || c >= 33 && c <= 126 }

// digit tells whether a byte is one.
func digit(c rune) bool { return c >= '0' && c <= '9' }

// bit tells whether a byte is a binary digit.
func bit(c rune) bool { return c == '0' || c == '1' }

// hex tells whether a byte is a hexadecimal digit.
func hex(c rune) bool { return digit(c) || c >= 'a' && c <= 'f' || c >= 'A' && c <= 'F' }

// named tells whether a byte is a name byte.
func named(c rune) bool {
	switch c {
	case '~', '!', '@', '$', '%', '^', '&', '*', '_', '-', '+', '=', '<', '>', '.', '?', '/':
		return true
	}
	return digit(c) || c >= 'a' && c <= 'z' || c >= 'A' && c <= 'Z'
}
