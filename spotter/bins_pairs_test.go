package spotter_test

import (
	"slices"
	"strconv"
	"strings"
	"testing"
)

// What Bins tells is held here against another way to find it: of the runs of
// a stretch, each that the bases have is crossed out with one of theirs.

func listRuns(bases string, q int) []string {
	var runs []string
	for i := range len(bases) {
		if i+q <= len(bases) && !strings.Contains(bases[i:i+q], "N") {
			runs = append(runs, bases[i:i+q])
		}
	}
	return runs
}

func crossedOut(of, by []string) int {
	left := slices.Clone(by)
	count := 0
	for _, run := range of {
		if at := slices.Index(left, run); at >= 0 {
			left = slices.Delete(left, at, at+1)
			count++
		}
	}
	return count
}

func pairedBins(ref, bases string, k, q, step int) string {
	ref, bases = strings.ToUpper(ref), strings.ToUpper(bases)
	var numbers []string
	for start := 0; start < len(ref); start += step {
		stretch := ref[start:]
		if len(stretch) > step+len(bases)+k {
			stretch = stretch[:step+len(bases)+k]
		}
		if crossedOut(listRuns(bases, q), listRuns(stretch, q)) >= len(bases)-q+1-k*q {
			numbers = append(numbers, strconv.Itoa(start/step))
		}
	}
	return strings.Join(numbers, ",")
}

// everyText gives all texts of 1 to most of some letters.
func everyText(letters string, most int, give func(string)) {
	var longer func(string)
	longer = func(text string) {
		for i := range len(letters) {
			next := text + letters[i:i+1]
			give(next)
			if len(next) < most {
				longer(next)
			}
		}
	}
	longer("")
}

func TestBinsOfAllShortBases(t *testing.T) {
	for _, ref := range []string{"A", "N", "CA", "AAC", "ACNCA", "CCACAAACNNCAC"} {
		everyText("ACN", 4, func(bases string) {
			for k := range len(bases) {
				for q := 1; q <= 5; q++ {
					for _, step := range []int{1, 2, 3, 5, 13} {
						wantBins(t, ">r\n"+ref+"\n", bases, k, q, step, pairedBins(ref, bases, k, q, step))
					}
				}
			}
		})
	}
}

// longRef has 200 bases that look as if drawn, but are the same each time.
func longRef() string {
	ref := make([]byte, 200)
	state := uint32(7)
	for i := range ref {
		state = state*1664525 + 1013904223
		ref[i] = "ACGTACGTACGTACGTacgtN"[state>>24%21]
	}
	return string(ref)
}

func withLines(bases string, width int) string {
	text := ">long.ref\n"
	for ; len(bases) > width; bases = bases[width:] {
		text += bases[:width] + "\n"
	}
	return text + bases + "\n"
}

// someSought are pieces of a reference, whole and with errors in them.
func someSought(ref string) []string {
	var sought []string
	for _, count := range []int{7, 16, 30} {
		for at := 0; at+count <= len(ref); at += 49 {
			piece := ref[at : at+count]
			middle := count / 2
			sought = append(sought, piece, piece[:middle]+"N"+piece[middle+1:], piece[:middle]+piece[middle+1:]+"A",
				"T"+piece[2:middle]+"c"+piece[middle:])
		}
	}
	return sought
}

func TestBinsOfALongReference(t *testing.T) {
	ref := longRef()
	text := withLines(ref, 60)
	answers := map[string]bool{}
	for _, bases := range someSought(ref) {
		for k := 0; k <= 6 && k < len(bases); k++ {
			for q := 1; q <= 8; q++ {
				for _, step := range []int{1, 9, 40, 199, 200} {
					want := pairedBins(ref, bases, k, q, step)
					wantBins(t, text, bases, k, q, step, want)
					answers[want] = true
				}
			}
		}
	}
	if len(answers) < 500 {
		t.Errorf("only %d different answers: the bases are ill chosen", len(answers))
	}
}
