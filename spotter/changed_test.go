package spotter_test

import (
	"sort"
	"strings"
	"testing"
)

// The place that Check tells is held here against another way to find it: the
// length of the longest beginning of the text that some ending makes whole.

func made(s, of string, least, most int) bool {
	return len(s) >= least && len(s) <= most && strings.Trim(s, of) == ""
}

func madeOfBases(s string, most int) bool { return made(s, "ACGTNacgtn", 1, most) }

func isName(s string) bool {
	return made(s, "ABCDEFGHIJKLMNOPQRSTUVWXYZabcdefghijklmnopqrstuvwxyz0123456789_.", 1, 10)
}

func isReference(text string) bool {
	lines := strings.Split(text, "\n")
	if len(lines) < 3 || lines[len(lines)-1] != "" || !strings.HasPrefix(lines[0], ">") || !isName(lines[0][1:]) {
		return false
	}
	count := 0
	for _, line := range lines[1 : len(lines)-1] {
		if !madeOfBases(line, 200) {
			return false
		}
		count += len(line)
	}
	return count <= 200
}

func areReads(text string) bool {
	lines := strings.Split(text, "\n")
	if len(lines)%4 != 1 || len(lines) > 21 || lines[len(lines)-1] != "" {
		return false
	}
	for i := 0; i+4 < len(lines); i += 4 {
		four := lines[i : i+4]
		if !strings.HasPrefix(four[0], "@") || !isName(four[0][1:]) || !madeOfBases(four[1], 30) || four[2] != "+" || len(four[3]) != len(four[1]) {
			return false
		}
		for _, b := range []byte(four[3]) {
			if b < 33 || b > 126 {
				return false
			}
		}
	}
	return true
}

func referenceEndings() []string {
	return []string{"", "\n", "A\n", "\nA\n", "r\nA\n", ">r\nA\n"}
}

func readsEndings() []string {
	endings := []string{"", "@a\nA\n+\n!\n", "a\nA\n+\n!\n", "\nA\n+\n!\n", "A\n+\n!\n"}
	for n := range 31 {
		marks := strings.Repeat("!", n) + "\n"
		endings = append(endings, marks, "\n"+marks, "+\n"+marks, "\n+\n"+marks)
	}
	return endings
}

// longestBeginning may search by halves, since each beginning of one that can
// be made whole can be made whole too.
func longestBeginning(text string, whole func(string) bool, endings []string) int {
	return sort.Search(len(text), func(n int) bool {
		for _, ending := range endings {
			if whole(text[:n+1] + ending) {
				return false
			}
		}
		return true
	})
}

// changed gives a text with one byte of some put in, put in another's stead,
// or left out, at every place, and what is left where the text ends there.
func changed(text string, bytes string, give func(string)) {
	give(text)
	for at := range len(text) + 1 {
		give(text[:at])
		for i := range len(bytes) {
			give(text[:at] + bytes[i:i+1] + text[at:])
			if at < len(text) {
				give(text[:at] + bytes[i:i+1] + text[at+1:])
			}
		}
		if at < len(text) {
			give(text[:at] + text[at+1:])
		}
	}
}

const someBytes = "\x00\t\n\r !+.>@ANUanz_~\x7f\xc3"

func TestCheckChangedReferences(t *testing.T) {
	endings := referenceEndings()
	for _, text := range []string{goodRef, ">0123456789\nA\nC\n", ">r\n" + strings.Repeat("A", 190) + "\nCCCCC\nGGGG\n"} {
		changed(text, someBytes, func(s string) {
			want := fine
			if !isReference(s) {
				want = badRef(longestBeginning(s, isReference, endings))
			}
			wantCheck(t, s, "", want)
		})
	}
}

func TestCheckChangedReads(t *testing.T) {
	endings := readsEndings()
	for _, text := range []string{goodReads, oneRead("0123456789", 29), strings.Repeat(oneRead("a", 1), 5)} {
		changed(text, someBytes, func(s string) {
			want := fine
			if !areReads(s) {
				want = badReads(longestBeginning(s, areReads, endings))
			}
			wantCheck(t, goodRef, s, want)
		})
	}
}
