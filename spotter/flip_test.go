package spotter_test

import (
	"strings"
	"testing"

	"spotter/spotter"
)

func wantFlip(t *testing.T, bases, want string, wantCode spotter.Errno) {
	t.Helper()
	if got, code := spotter.Flip(bases); got != want || code != wantCode {
		t.Errorf("P4: Flip(%.60q) = %.60q, %d, want %.60q, %d", bases, got, code, want, wantCode)
	}
}

func TestFlipOrdinary(t *testing.T) {
	wantFlip(t, "AACn", "NGTT", spotter.OK)
	wantFlip(t, "ACGTN", "NACGT", spotter.OK)
	wantFlip(t, "acgtn", "NACGT", spotter.OK)
	wantFlip(t, "gGaTtC", "GAATCC", spotter.OK)
	wantFlip(t, "", "", spotter.OK)
}

func TestFlipLength(t *testing.T) {
	wantFlip(t, strings.Repeat("A", 199)+"C", "G"+strings.Repeat("T", 199), spotter.OK)
	wantFlip(t, strings.Repeat("A", 201), "", spotter.ErrLong)
	wantFlip(t, strings.Repeat("x", 200), "", spotter.ErrBase)
	wantFlip(t, strings.Repeat("x", 201), "", spotter.ErrLong)
	wantFlip(t, strings.Repeat("x", 1<<22), "", spotter.ErrLong)
}

func TestFlipEveryByte(t *testing.T) {
	partners := map[byte]string{'A': "T", 'C': "G", 'G': "C", 'T': "A", 'N': "N", 'a': "T", 'c': "G", 'g': "C", 't': "A", 'n': "N"}
	for i := range 256 {
		b := string([]byte{byte(i)})
		partner, isBase := partners[byte(i)]
		if isBase {
			wantFlip(t, b, partner, spotter.OK)
			wantFlip(t, "A"+b+"C", "G"+partner+"T", spotter.OK)
			continue
		}
		wantFlip(t, b, "", spotter.ErrBase)
		wantFlip(t, b+"AC", "", spotter.ErrBase)
		wantFlip(t, "A"+b+"C", "", spotter.ErrBase)
		wantFlip(t, "AC"+b, "", spotter.ErrBase)
	}
}

func TestFlipTwice(t *testing.T) {
	const bases = "ACCGTNNGATTACAacgtn"
	once, _ := spotter.Flip(bases)
	wantFlip(t, once, strings.ToUpper(bases), spotter.OK)
}
