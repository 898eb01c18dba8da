package spotter

import (
	"slices"
	"strconv"
	"strings"
)

// laid tells how the bases are laid against others: a letter each, from the
// first on. Where several ways cost the same, the document's order chooses.
func laid(sought string, against string) string {
	table := distances(sought, against)
	var letters []byte
	i, j := len(sought), len(against)
	for i > 0 || j > 0 {
		letter := letterAt(table, sought, against, i, j)
		letters = append(letters, letter)
		if letter != 'D' {
			i--
		}
		if letter != 'I' {
			j--
		}
	}
	slices.Reverse(letters)
	return string(letters)
}

func letterAt(table [][]int, sought string, against string, i int, j int) byte {
	switch {
	case i > 0 && j > 0 && table[i][j] == table[i-1][j-1]+cost(sought[i-1], against[j-1]):
		return 'M'
	case i > 0 && table[i][j] == table[i-1][j]+1:
		return 'I'
	}
	return 'D'
}

// inRuns tells letters with how many of the same stand beside each other.
func inRuns(letters string) string {
	var text strings.Builder
	run := 0
	for i := range len(letters) {
		run++
		if i+1 == len(letters) || letters[i+1] != letters[i] {
			text.WriteString(strconv.Itoa(run))
			text.WriteByte(letters[i])
			run = 0
		}
	}
	return text.String()
}

// differences tells where and how the bases differ from those that they are
// laid against.
func differences(letters string, sought string, against string) string {
	var text strings.Builder
	i, j, agreed := 0, 0, 0
	tellAgreed := func() {
		text.WriteString(strconv.Itoa(agreed))
		agreed = 0
	}
	for at := range len(letters) {
		switch letters[at] {
		case 'M':
			if agree(sought[i], against[j]) {
				agreed++
			} else {
				tellAgreed()
				text.WriteByte(against[j])
			}
			i++
			j++
		case 'I':
			i++
		case 'D':
			if at == 0 || letters[at-1] != 'D' {
				tellAgreed()
				text.WriteByte('^')
			}
			text.WriteByte(against[j])
			j++
		}
	}
	tellAgreed()
	return text.String()
}
