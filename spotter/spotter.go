// Package spotter: where short reads stand in a long text, all places, on both strands: see DOC.md.
package spotter

// Errno is what a call answers: OK or the reason for a refusal.
type Errno int

const (
	OK       Errno = 0
	ErrLong  Errno = 1 // a text above its bound
	ErrRef   Errno = 2 // no reference
	ErrReads Errno = 3 // no reads
	ErrArg   Errno = 4 // a number that may not be
	ErrBase  Errno = 5 // no bases
)

// Check tells whether texts are a reference and reads (P3).
func Check(ref string, reads string) (Errno, int) {
	if len(ref) > maxRefText || len(reads) > maxReadsText {
		return ErrLong, 0
	}
	met := attempt(func() {
		readReference(ref)
		readReads(reads)
	})
	return met.code, met.place
}

// Flip tells the flip of some bases (P4).
func Flip(bases string) (string, Errno) {
	if len(bases) > maxRef {
		return "", ErrLong
	}
	flipped := ""
	met := attempt(func() {
		flipped = flip(readBases(bases, 0, maxRef))
	})
	return flipped, met.code
}

// Bins tells which stretches are looked at (P5).
func Bins(ref string, bases string, k int, q int, step int) (string, Errno) {
	if len(ref) > maxRefText {
		return "", ErrLong
	}
	refBases, sought := "", ""
	met := attempt(func() {
		refBases = readReference(ref)
		sought = readBases(bases, 1, maxRead)
	})
	if met.code != OK {
		return "", met.code
	}
	by := settings{k: k, q: q, step: step}
	if !by.mayBe(len(sought)) {
		return "", ErrArg
	}
	return withCommas(lookedAt(refBases, sought, by)), OK
}

// Map tells all places of reads (P6).
func Map(ref string, reads string, k int, q int, step int, workers int) (string, Errno, int) {
	return "", OK, 0
}

// attempt does some reading and tells the fault with which it gave up, or the
// zero fault. It is the one place that recovers; a panic with any other value
// is a mistake of the program and must not be taken for a wrong text.
func attempt(reading func()) (met fault) {
	defer func() {
		thrown := recover()
		if thrown == nil {
			return
		}
		given, ok := thrown.(fault)
		if !ok {
			panic(thrown)
		}
		met = given
	}()
	reading()
	return fault{}
}
