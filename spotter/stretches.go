package spotter

import (
	"strconv"
	"strings"
)

const (
	maxErrors = 6
	maxGram   = 8 // bases of a run
	maxStep   = 200
)

// settings are the numbers by which bases are sought in a reference.
type settings struct {
	k    int // errors
	q    int // bases of a run
	step int // from the beginning of a stretch to that of the next
}

// mayBe tells whether the settings are within their limits, whatever is sought.
func (by settings) mayBe() bool {
	return 0 <= by.k && by.k <= maxErrors &&
		1 <= by.q && by.q <= maxGram &&
		1 <= by.step && by.step <= maxStep
}

// mayServe tells whether these bases may be sought: if each of them could be an
// error, they would stand everywhere.
func (by settings) mayServe(sought string) bool {
	return by.k < len(sought)
}

func (by settings) mayServeAll(reads []read) bool {
	for _, one := range reads {
		if !by.mayServe(one.bases) {
			return false
		}
	}
	return true
}

// needed tells how many runs a stretch must share with so many bases to be
// looked at: each error spoils at most q of the runs that the bases have.
func (by settings) needed(count int) int {
	return count - by.q + 1 - by.k*by.q
}

// stretch tells the bases of a stretch. Each reaches so far into the next that
// whatever count bases may be laid against, if it begins within the step, is
// in it.
func (by settings) stretch(ref string, count int, number int) string {
	start := number * by.step
	end := min(start+by.step+count+by.k, len(ref))
	return ref[start:end]
}

// lookedAt tells the numbers of the stretches that are looked at, rising.
func lookedAt(ref string, sought string, by settings) []int {
	needed := by.needed(len(sought))
	runs := countRuns(sought, by.q)
	var numbers []int
	for number := 0; number*by.step < len(ref); number++ {
		stretch := by.stretch(ref, len(sought), number)
		if needed <= 0 || shared(runs, countRuns(stretch, by.q)) >= needed {
			numbers = append(numbers, number)
		}
	}
	return numbers
}

// countRuns tells how often each run of q bases stands in some bases. Those
// with an N are left out, since N agrees with nothing.
func countRuns(bases string, q int) map[string]int {
	counts := map[string]int{}
	for end := q; end <= len(bases); end++ {
		run := bases[end-q : end]
		if strings.IndexByte(run, 'N') < 0 {
			counts[run]++
		}
	}
	return counts
}

// shared tells how many runs two counts have in common, each as often as it
// stands in both.
func shared(one map[string]int, other map[string]int) int {
	sum := 0
	for run, count := range one {
		sum += min(count, other[run])
	}
	return sum
}

func withCommas(numbers []int) string {
	var text strings.Builder
	for i, number := range numbers {
		if i > 0 {
			text.WriteByte(',')
		}
		text.WriteString(strconv.Itoa(number))
	}
	return text.String()
}
