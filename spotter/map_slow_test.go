package spotter_test

import (
	"strconv"
	"strings"
	"testing"

	"spotter/spotter"
)

// What Map tells is held here against a slow way to find it, which knows no
// stretches and no workers: every start is tried with every end.

// errorsTo tells the distances of all beginnings of two runs of bases: it goes
// to all that are reached without errors, then to those with one, and so on,
// but no further than most; what is not reached by then has -1.
func errorsTo(one, other string, most int) [][]int {
	least := make([][]int, len(one)+1)
	for i := range least {
		least[i] = make([]int, len(other)+1)
		for j := range least[i] {
			least[i][j] = -1
		}
	}
	now := [][2]int{{0, 0}}
	for errors := 0; errors <= most; errors++ {
		var next [][2]int
		for len(now) > 0 {
			i, j := now[len(now)-1][0], now[len(now)-1][1]
			now = now[:len(now)-1]
			if i > len(one) || j > len(other) || least[i][j] >= 0 {
				continue
			}
			least[i][j] = errors
			if i < len(one) && j < len(other) && one[i] == other[j] && one[i] != 'N' {
				now = append(now, [2]int{i + 1, j + 1})
			}
			next = append(next, [2]int{i + 1, j + 1}, [2]int{i + 1, j}, [2]int{i, j + 1})
		}
		now = next
	}
	return least
}

type slowHit struct{ start, end, errors int }

// slowHits may leave out ends that are so far from the start that the bases
// between are more than k too many.
func slowHits(ref, bases string, k int) []slowHit {
	best := make([]slowHit, len(ref)+1)
	for end := range best {
		best[end].errors = k + 1
	}
	for start := range len(ref) + 1 {
		to := min(len(ref), start+len(bases)+k)
		distances := errorsTo(bases, ref[start:to], k)[len(bases)]
		for end := start; end <= to; end++ {
			if errors := distances[end-start]; errors >= 0 && errors <= best[end].errors {
				best[end] = slowHit{start, end, errors}
			}
		}
	}
	var hits []slowHit
	for _, hit := range best {
		if hit.errors <= k {
			hits = append(hits, hit)
		}
	}
	return hits
}

func slowLetters(bases, against string) string {
	a := errorsTo(bases, against, len(bases)+len(against))
	letters := ""
	for i, j := len(bases), len(against); i+j > 0; {
		if i > 0 && j > 0 && (a[i][j] == a[i-1][j-1]+1 && (bases[i-1] != against[j-1] || bases[i-1] == 'N') ||
			a[i][j] == a[i-1][j-1] && bases[i-1] == against[j-1] && bases[i-1] != 'N') {
			letters = "M" + letters
			i--
			j--
		} else if i > 0 && a[i][j] == a[i-1][j]+1 {
			letters = "I" + letters
			i--
		} else {
			letters = "D" + letters
			j--
		}
	}
	return letters
}

// slowRuns takes off one run of letters after another.
func slowRuns(letters string) string {
	text := ""
	for letters != "" {
		rest := strings.TrimLeft(letters, letters[:1])
		text += strconv.Itoa(len(letters)-len(rest)) + letters[:1]
		letters = rest
	}
	return text
}

// slowDifferences first tells every letter by itself and then puts together
// what belongs together.
func slowDifferences(letters, bases, against string) string {
	text := ""
	for _, letter := range letters {
		switch {
		case letter == 'I':
			bases = bases[1:]
			continue
		case letter == 'D':
			text += "^" + against[:1]
		case bases[0] == against[0] && bases[0] != 'N':
			text += "="
			bases = bases[1:]
		default:
			text += against[:1]
			bases = bases[1:]
		}
		against = against[1:]
	}
	told := ""
	agreed, leftOut := 0, false
	for ; text != ""; text = text[1:] {
		switch text[0] {
		case '=':
			agreed++
			leftOut = false
		case '^':
			if !leftOut {
				told += strconv.Itoa(agreed) + "^"
			}
			told += text[1:2]
			text = text[1:]
			agreed, leftOut = 0, true
		default:
			told += strconv.Itoa(agreed) + text[:1]
			agreed, leftOut = 0, false
		}
	}
	return told + strconv.Itoa(agreed)
}

func slowFlip(bases string) string {
	flipped := ""
	for _, base := range bases {
		flipped = string("TGCAN"[strings.IndexRune("ACGTN", base)]) + flipped
	}
	return flipped
}

func slowBackwards(text string) string {
	turned := ""
	for _, b := range text {
		turned = string(b) + turned
	}
	return turned
}

// slowLines tells the lines of one read with manyMarks.
func slowLines(name, ref, readName, bases string, k int) string {
	ref, bases = strings.ToUpper(ref), strings.ToUpper(bases)
	marks := manyMarks[:len(bases)]
	text := ""
	for _, strand := range []struct {
		flag         int
		bases, marks string
	}{{0, bases, marks}, {16, slowFlip(bases), slowBackwards(marks)}} {
		for _, hit := range slowHits(ref, strand.bases, k) {
			flag := strand.flag
			if text != "" {
				flag += 256
			}
			against := ref[hit.start:hit.end]
			letters := slowLetters(strand.bases, against)
			text += strings.Join([]string{readName, strconv.Itoa(flag), name, strconv.Itoa(hit.start + 1), slowRuns(letters), strconv.Itoa(hit.errors),
				slowDifferences(letters, strand.bases, against), strand.bases, strand.marks}, "\t") + "\n"
		}
	}
	if text == "" {
		return strings.Join([]string{readName, "4", "*", "0", "*", "-", "-", bases, marks}, "\t") + "\n"
	}
	return text
}

func slowMap(ref string, reads []string, k int) (text string, want string) {
	want = "@long.ref\t" + strconv.Itoa(len(ref)) + "\n"
	for i, bases := range reads {
		name := "n" + strconv.Itoa(i)
		text += asRead(name, bases)
		want += slowLines("long.ref", ref, name, bases, k)
	}
	return text, want
}

func TestMapOfAllShortReads(t *testing.T) {
	turn := 0
	for _, ref := range []string{"A", "N", "CA", "AAC", "ACNCG", "CCACAGACNNTAC", "ACACACCACACC"} {
		everyText("ACTN", 4, func(bases string) {
			for k := range len(bases) {
				reads, want := slowMap(ref, []string{bases}, k)
				for range 3 {
					by := ways{1 + turn%8, 1 + turn/8%14, 1 + turn/3%8}
					wantMapBy(t, withLines(ref, 7), reads, k, by, want)
					turn++
				}
			}
		})
	}
}

// TestMapOfAllLongerReads has but two bases, of which runs stand in the
// reference many times.
func TestMapOfAllLongerReads(t *testing.T) {
	const ref = "AACACCCAGTTGTAACA"
	turn := 0
	everyText("AC", 8, func(bases string) {
		for k := range min(len(bases), 7) {
			reads, want := slowMap(ref, []string{bases}, k)
			by := ways{1 + turn%8, 1 + turn/8%18, 1 + turn/3%8}
			wantMapBy(t, withLines(ref, 9), reads, k, by, want)
			turn++
		}
	})
}

// someReads are pieces of a reference, with errors of all kinds, beside each
// other and apart, and on both strands.
func someReads(ref string) []string {
	var reads []string
	for _, count := range []int{7, 9, 14, 21, 30} {
		for at := 0; at+count <= len(ref); at += 42 {
			piece := ref[at : at+count]
			third := count / 3
			flipped := slowFlip(strings.ToUpper(piece))
			reads = append(reads, piece,
				piece[:third]+"TC"+piece[third+2:],
				piece[:third]+piece[third+3:],
				flipped[:third]+"GA"+flipped[third:count-2],
				"C"+flipped[1:third]+flipped[third+1:count-third]+"T"+flipped[count-third:],
				piece[2:third]+"n"+piece[third:count-1])
		}
	}
	return reads
}

func TestMapOfALongReference(t *testing.T) {
	ref := longRef()
	text := withLines(ref, 60)
	all := someReads(ref)
	several, turn := 0, 0
	for first := 0; first < len(all); first += 5 {
		some := all[first:min(first+5, len(all))]
		for k := 0; k <= 6; k++ {
			if tooShort(some, k) {
				continue
			}
			reads, want := slowMap(ref, some, k)
			for range 4 {
				by := ways{1 + turn%8, 1 + turn*37%200, 1 + turn/3%8}
				wantMapBy(t, text, reads, k, by, want)
				turn++
			}
			several += strings.Count(want, "^")
		}
	}
	if several < 500 {
		t.Errorf("only %d lines leave out bases: the reads are ill chosen", several)
	}
}

func tooShort(reads []string, k int) bool {
	for _, bases := range reads {
		if k >= len(bases) {
			return true
		}
	}
	return false
}

// TestMapHangsOnNoneOfItsWays takes all ways for a few reads.
func TestMapHangsOnNoneOfItsWays(t *testing.T) {
	ref := longRef()[40:120]
	text := withLines(ref, 33)
	reads := []string{ref[3:20], slowFlip(strings.ToUpper(ref[50:58] + ref[60:70])), ref[60:80], "ACGTNAC"}
	for _, k := range []int{0, 1, 3, 6} {
		reads, want := slowMap(ref, reads, k)
		for q := 1; q <= 8; q++ {
			for _, step := range []int{1, 2, 3, 7, 16, 39, 79, 80, 81, 200} {
				for workers := 1; workers <= 8; workers++ {
					wantMapBy(t, text, reads, k, ways{q, step, workers}, want)
				}
			}
		}
	}
}

// TestMapTellsEnoughToMakeTheReference makes the reference's bases again of
// what each line tells, and counts the errors that the letters and the
// differences tell.
func TestMapTellsEnoughToMakeTheReference(t *testing.T) {
	ref := strings.ToUpper(longRef())
	for i, bases := range someReads(ref) {
		text, code, _ := spotter.Map(withLines(ref, 50), asRead("a", bases), min(5, len(bases)-1), 1+i%8, 1+i*7%200, 1+i%8)
		if code != spotter.OK {
			t.Fatalf("P6: Map refuses %q: %d", bases, code)
		}
		for _, line := range strings.Split(text, "\n")[1:] {
			parts := strings.Split(line, "\t")
			if len(parts) != 9 || parts[1] == "4" {
				continue
			}
			made, errors := madeAgain(parts[4], parts[6], parts[7])
			start, _ := strconv.Atoi(parts[3])
			if !strings.HasPrefix(ref[start-1:], made) || strconv.Itoa(errors) != parts[5] {
				t.Errorf("P6: the line %q tells %q with %d errors", line, made, errors)
			}
		}
	}
}

// takeNumber takes the digits off a text.
func takeNumber(text *string) int {
	rest := strings.TrimLeft(*text, "0123456789")
	number, _ := strconv.Atoi((*text)[:len(*text)-len(rest)])
	*text = rest
	return number
}

func madeAgain(letters, differences, bases string) (made string, errors int) {
	// What is put in is left out again: the bases that have an M stay.
	stay := ""
	for letters != "" {
		count := takeNumber(&letters)
		letter := letters[0]
		letters = letters[1:]
		switch letter {
		case 'M':
			stay += bases[:count]
			bases = bases[count:]
		case 'I':
			bases = bases[count:]
			errors += count
		}
	}
	for {
		agreed := takeNumber(&differences)
		made += stay[:agreed]
		stay = stay[agreed:]
		if differences == "" {
			return made, errors
		}
		if differences[0] == '^' {
			rest := strings.TrimLeft(differences[1:], "ACGTN")
			leftOut := differences[1 : len(differences)-len(rest)]
			made += leftOut
			errors += len(leftOut)
			differences = rest
			continue
		}
		made += differences[:1]
		errors++
		stay = stay[1:]
		differences = differences[1:]
	}
}
