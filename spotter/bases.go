package spotter

import "slices"

func isBase(b byte) bool {
	switch greatLetter(b) {
	case 'A', 'C', 'G', 'T', 'N':
		return true
	}
	return false
}

func greatLetter(b byte) byte {
	if 'a' <= b && b <= 'z' {
		return b - 'a' + 'A'
	}
	return b
}

func greatLetters(bases string) string {
	great := make([]byte, len(bases))
	for i := range len(bases) {
		great[i] = greatLetter(bases[i])
	}
	return string(great)
}

// agree expects great letters, as all behind it do. N agrees with nothing, not
// with N either.
func agree(one byte, other byte) bool {
	return one == other && one != 'N'
}

func flip(bases string) string {
	flipped := make([]byte, len(bases))
	for i := range len(bases) {
		flipped[len(bases)-1-i] = partner(bases[i])
	}
	return string(flipped)
}

// partner tells the base that stands on the other strand.
func partner(base byte) byte {
	switch base {
	case 'A':
		return 'T'
	case 'T':
		return 'A'
	case 'C':
		return 'G'
	case 'G':
		return 'C'
	}
	return 'N'
}

func backwards(text string) string {
	turned := []byte(text)
	slices.Reverse(turned)
	return string(turned)
}
