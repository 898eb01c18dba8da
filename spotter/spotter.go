// Package spotter: where short reads stand in a long text, all places, on both strands: see DOC.md.
package spotter

// Errno is what a call answers: OK or the reason for a refusal.
type Errno int

const (
	OK       Errno = 0
	ErrLong  Errno = 1 // a text above its bound
	ErrRef   Errno = 2 // no reference
	ErrReads Errno = 3 // no reads
	ErrArg   Errno = 4 // a number that may not be
	ErrBase  Errno = 5 // no bases
)

// Check tells whether texts are a reference and reads (P3).
func Check(ref string, reads string) (Errno, int) {
	_, _, met := readBoth(ref, reads)
	return met.code, met.place
}

// Flip tells the flip of some bases (P4).
func Flip(bases string) (string, Errno) {
	if len(bases) > maxRef {
		return "", ErrLong
	}
	flipped := ""
	met := attempt(func() {
		flipped = flip(readBases(bases, 0, maxRef))
	})
	return flipped, met.code
}

// Bins tells which stretches are looked at (P5).
func Bins(ref string, bases string, k int, q int, step int) (string, Errno) {
	if len(ref) > maxRefText {
		return "", ErrLong
	}
	var within reference
	sought := ""
	met := attempt(func() {
		within = readReference(ref)
		sought = readBases(bases, 1, maxRead)
	})
	if met.code != OK {
		return "", met.code
	}
	by := settings{k: k, q: q, step: step}
	if !by.mayBe() || !by.mayServe(sought) {
		return "", ErrArg
	}
	return withCommas(lookedAt(within.bases, sought, by)), OK
}

// Map tells all places of reads (P6).
func Map(ref string, reads string, k int, q int, step int, workers int) (string, Errno, int) {
	within, all, met := readBoth(ref, reads)
	if met.code != OK {
		return "", met.code, met.place
	}
	by := settings{k: k, q: q, step: step}
	if !by.mayBe() || !by.mayServeAll(all) || workers < 1 || workers > maxWorkers {
		return "", ErrArg, 0
	}
	return tellPlaces(within, all, by, workers), OK, 0
}

// readBoth reads what Check and Map are given, so that both tell the same
// faults at the same places.
func readBoth(ref string, reads string) (within reference, all []read, met fault) {
	if len(ref) > maxRefText || len(reads) > maxReadsText {
		return reference{}, nil, fault{code: ErrLong}
	}
	met = attempt(func() {
		within = readReference(ref)
		all = readReads(reads)
	})
	return within, all, met
}

// attempt does some reading and tells the fault with which it gave up, or the
// zero fault. It is the one place that recovers; a panic with any other value
// is a mistake of the program and must not be taken for a wrong text.
func attempt(reading func()) (met fault) {
	defer func() {
		thrown := recover()
		if thrown == nil {
			return
		}
		given, ok := thrown.(fault)
		if !ok {
			panic(thrown)
		}
		met = given
	}()
	reading()
	return fault{}
}
