package queries

import "panes/api"

// none stands for a place where there is none to tell.
const none = -1

type token struct {
	text   string
	at     int
	number bool
}

// split cuts a text into tokens. It tells the place of the first byte that
// begins no token, or none.
func split(text string) ([]token, int) {
	tokens := []token{}
	at := 0
	for at < len(text) {
		if isBlank(text[at]) {
			at++
			continue
		}
		end := tokenEnd(text, at)
		if end <= at {
			return nil, at
		}
		tokens = append(tokens, token{text: text[at:end], at: at, number: isDigit(text[at])})
		at = end
	}
	return tokens, none
}

// tokenEnd tells where the token ends that begins at a place of the text: the
// place itself, if none begins there.
func tokenEnd(text string, at int) int {
	if at >= len(text) {
		return at
	}
	if isSign(text[at]) {
		return at + 1
	}
	end := at
	most := 0
	if isDigit(text[at]) {
		end = digitsEnd(text, at)
		most = api.MaxDigits
	} else if isLetter(text[at]) {
		end = lettersEnd(text, at)
		most = api.MaxWord
	}
	// A row above its bound is no token at all, not a token with another behind it.
	if end-at > most {
		return at
	}
	return end
}

func digitsEnd(text string, at int) int {
	for at < len(text) && isDigit(text[at]) {
		at++
	}
	return at
}

func lettersEnd(text string, at int) int {
	for at < len(text) && isLetter(text[at]) {
		at++
	}
	return at
}

func isBlank(b byte) bool {
	return b == ' ' || b == '\n'
}

func isSign(b byte) bool {
	return b == '(' || b == ')' || b == ','
}

func isDigit(b byte) bool {
	return b >= '0' && b <= '9'
}

func isLetter(b byte) bool {
	return b >= 'a' && b <= 'z'
}

// worth tells the number that a row of digits is; split lets no row through
// that is too long for an int.
func worth(digits string) int {
	n := 0
	for i := 0; i < len(digits); i++ {
		n = n*10 + int(digits[i]-'0')
	}
	return n
}
