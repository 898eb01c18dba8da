package spotter_test

import (
	"math"
	"slices"
	"strconv"
	"strings"
	"sync"
	"testing"

	"spotter/spotter"
)

// P1 and P2 are promises of all calls alike.

func oddTexts() []string {
	return []string{
		"", "x", "\n", "\x00", "\xff\xfe\x80", "é", "A", "N", "n", "GTA", strings.Repeat("c", 30), strings.Repeat("c", 31),
		">", ">r\n", ">r\nA\n", tenRef, goodRef, "@", "@a\nA\n+\n!\n", goodReads,
		">r\n" + strings.Repeat("A", 200) + "\n", strings.Repeat("A\n", 200), strings.Repeat("\n", 400), strings.Repeat(">", 401),
		strings.Repeat("@", 600), strings.Repeat("@", 601), strings.Repeat("a", 100000),
	}
}

func oddNumbers() []int {
	return []int{math.MinInt, math.MinInt + 1, math.MinInt32, -200, -1, 0, 1, 2, 6, 7, 8, 9, 200, 201, 1 << 31, 1 << 32, 1 << 62, math.MaxInt - 1, math.MaxInt}
}

// endsWell runs a call and fails, with its name, where it panics.
func endsWell(t *testing.T, name string, call func()) {
	t.Helper()
	defer func() {
		t.Helper()
		if thrown := recover(); thrown != nil {
			t.Errorf("P1: %s panics: %v", name, thrown)
		}
	}()
	call()
}

func wantEmptyBesideError(t *testing.T, name string, text string, code spotter.Errno) {
	t.Helper()
	if code != spotter.OK && text != "" {
		t.Errorf("P1: %s answers %.40q beside the error %d", name, text, code)
	}
}

func TestTextsOfAllKindsEndWell(t *testing.T) {
	for _, one := range oddTexts() {
		endsWell(t, "Flip", func() {
			text, code := spotter.Flip(one)
			wantEmptyBesideError(t, "Flip", text, code)
		})
		for _, other := range oddTexts() {
			endsWell(t, "Check", func() {
				if code, place := spotter.Check(one, other); code == spotter.OK && place != 0 {
					t.Errorf("P1: Check(%.40q, %.40q) tells the place %d beside OK", one, other, place)
				}
			})
			endsWell(t, "Bins", func() {
				text, code := spotter.Bins(one, other, 0, 1, 1)
				wantEmptyBesideError(t, "Bins", text, code)
			})
			endsWell(t, "Map", func() {
				text, code, place := spotter.Map(one, other, 0, 1, 1, 1)
				wantEmptyBesideError(t, "Map", text, code)
				if code == spotter.OK && place != 0 {
					t.Errorf("P1: Map(%.40q, %.40q) tells the place %d beside OK", one, other, place)
				}
			})
		}
	}
}

func TestNumbersOfAllSizesEndWell(t *testing.T) {
	full := ">r\n" + strings.Repeat("A", 200) + "\n"
	for _, k := range oddNumbers() {
		for _, q := range oddNumbers() {
			for _, step := range oddNumbers() {
				for _, bases := range []string{"A", "ACGTACG", strings.Repeat("A", 30)} {
					name := "Bins(.., " + bases + ", " + strconv.Itoa(k) + ", " + strconv.Itoa(q) + ", " + strconv.Itoa(step) + ")"
					endsWell(t, name, func() {
						good := 0 <= k && k <= 6 && k < len(bases) && 1 <= q && q <= 8 && 1 <= step && step <= 200
						text, code := spotter.Bins(full, bases, k, q, step)
						if good != (code == spotter.OK) {
							t.Errorf("P5: %s answers the error %d", name, code)
						}
						wantEmptyBesideError(t, name, text, code)
					})
				}
			}
		}
	}
}

func TestMapEndsWellAtNumbersOfAllSizes(t *testing.T) {
	reads := asRead("a", "ACGTACG") + asRead("b", "TTTTTTTTT")
	few := []int{math.MinInt, -1, 0, 1, 6, 8, 9, 200, 201, 1<<32 + 1, math.MaxInt}
	for _, k := range few {
		for _, q := range few {
			for _, step := range few {
				for _, workers := range few {
					good := 0 <= k && k <= 6 && 1 <= q && q <= 8 && 1 <= step && step <= 200 && 1 <= workers && workers <= 8
					endsWell(t, "Map", func() {
						text, code, place := spotter.Map(tenRef, reads, k, q, step, workers)
						wantEmptyBesideError(t, "Map", text, code)
						if good != (code == spotter.OK) || place != 0 {
							t.Errorf("P6: Map(.., %d, %d, %d, %d) answers the error %d at %d", k, q, step, workers, code, place)
						}
					})
				}
			}
		}
	}
}

// TestTooLongIsFoundByTheLength makes so many calls with so great a text that
// they would not end in hours if each went through it.
func TestTooLongIsFoundByTheLength(t *testing.T) {
	great := strings.Repeat("acgt", 1<<23)
	greatRef := ">r\n" + great
	for range 100000 {
		if code, _ := spotter.Check(greatRef, ""); code != spotter.ErrLong {
			t.Fatalf("P1: Check answers %d to a great reference", code)
		}
		if code, _ := spotter.Check(goodRef, great); code != spotter.ErrLong {
			t.Fatalf("P1: Check answers %d to great reads", code)
		}
		if _, code := spotter.Flip(great); code != spotter.ErrLong {
			t.Fatalf("P1: Flip answers %d to great bases", code)
		}
		if _, code, place := spotter.Map(greatRef, great, -1, 0, 0, 0); code != spotter.ErrLong || place != 0 {
			t.Fatalf("P1: Map answers %d, %d to great texts", code, place)
		}
		if _, code, place := spotter.Map(tenRef, great, 0, 1, 1, 1); code != spotter.ErrLong || place != 0 {
			t.Fatalf("P1: Map answers %d, %d to great reads", code, place)
		}
		if _, code := spotter.Bins(greatRef, great, -1, 0, 0); code != spotter.ErrLong {
			t.Fatalf("P1: Bins answers %d to a great reference", code)
		}
		if _, code := spotter.Bins(tenRef, great, -1, 0, 0); code != spotter.ErrBase {
			t.Fatalf("P1: Bins answers %d to great bases", code)
		}
	}
}

// told is what a call answers, of whichever call.
type told struct {
	text  string
	code  spotter.Errno
	place int
}

type telling struct {
	call func() told
	want told
}

func bins(ref, bases string, k, q, step int) func() told {
	return func() told {
		text, code := spotter.Bins(ref, bases, k, q, step)
		return told{text: text, code: code}
	}
}

func flipped(bases string) func() told {
	return func() told {
		text, code := spotter.Flip(bases)
		return told{text: text, code: code}
	}
}

func checked(ref, reads string) func() told {
	return func() told {
		code, place := spotter.Check(ref, reads)
		return told{code: code, place: place}
	}
}

// someTellings are calls of which each two differ in little, so that what one
// might leave behind would serve another ill.
func someTellings() []telling {
	other := ">r\nTTTGC\nATGCA\n"
	ok := func(text string) told { return told{text: text} }
	return []telling{
		{bins(tenRef, "GTA", 0, 2, 4), ok("0")},
		{bins(tenRef, "gta", 0, 2, 4), ok("0")},
		{bins(other, "GTA", 0, 2, 4), ok("")},
		{bins(tenRef, "TTT", 0, 2, 4), ok("1")},
		{bins(tenRef, "GTA", 1, 2, 4), ok("0,1,2")},
		{bins(tenRef, "GTA", 0, 1, 4), ok("0,1")},
		{bins(tenRef, "GTA", 0, 3, 1), ok("1,2")},
		{bins(tenRef, "GTA", 0, 2, 200), ok("0")},
		{bins(tenRef, "GTA", 0, 2, 0), told{code: spotter.ErrArg}},
		{bins(tenRef, "GTX", 0, 2, 4), told{code: spotter.ErrBase}},
		{bins(">r\nX\n", "GTA", 0, 2, 4), told{code: spotter.ErrRef}},
		{bins(strings.Repeat("A", 401), "GTA", 0, 2, 4), told{code: spotter.ErrLong}},
		{flipped("AACn"), ok("NGTT")},
		{flipped("AAC"), ok("GTT")},
		{flipped("AAX"), told{code: spotter.ErrBase}},
		{checked(goodRef, goodReads), told{}},
		{checked(">r\nACXT\n", goodReads), told{code: spotter.ErrRef, place: 5}},
		{checked(goodRef, "@a\nAC\n+\nI\n"), told{code: spotter.ErrReads, place: 9}},
		{mapped(tenRef, asRead("a", "GTA"), 0, 2, 4, 3), ok("@r\t10\na\t0\tr\t3\t3M\t0\t3\tGTA\t123\na\t272\tr\t4\t3M\t0\t3\tTAC\t321\n")},
		{mapped(tenRef, asRead("a", "GTA"), 0, 1, 1, 8), ok("@r\t10\na\t0\tr\t3\t3M\t0\t3\tGTA\t123\na\t272\tr\t4\t3M\t0\t3\tTAC\t321\n")},
		{mapped(tenRef, asRead("b", "GTA"), 0, 2, 4, 3), ok("@r\t10\nb\t0\tr\t3\t3M\t0\t3\tGTA\t123\nb\t272\tr\t4\t3M\t0\t3\tTAC\t321\n")},
		{mapped(tenRef, asRead("a", "TTT"), 0, 2, 4, 3), ok("@r\t10\na\t0\tr\t8\t3M\t0\t3\tTTT\t123\n")},
		{mapped(other, asRead("a", "GTA"), 0, 2, 4, 3), ok("@r\t10\na\t4\t*\t0\t*\t-\t-\tGTA\t123\n")},
		{mapped(tenRef, "", 0, 2, 4, 3), ok("@r\t10\n")},
		{mapped(tenRef, asRead("a", "GTA"), 3, 2, 4, 3), told{code: spotter.ErrArg}},
		{mapped(tenRef, asRead("a", "GTA"), 0, 2, 4, 9), told{code: spotter.ErrArg}},
		{mapped(tenRef, asRead("a", "GTX"), 0, 2, 4, 3), told{code: spotter.ErrReads, place: 5}},
		{mapped(">r\nX\n", asRead("a", "GTA"), 0, 2, 4, 3), told{code: spotter.ErrRef, place: 3}},
	}
}

func TestNothingIsKeptFromCallToCall(t *testing.T) {
	tellings := someTellings()
	for i, first := range tellings {
		for j, second := range tellings {
			first.call()
			if got := second.call(); got != second.want {
				t.Errorf("P2: call %d behind call %d answers %v, want %v", j, i, got, second.want)
			}
			if got := first.call(); got != first.want {
				t.Errorf("P2: call %d, again, behind call %d answers %v, want %v", i, j, got, first.want)
			}
		}
	}
}

func TestCallsAtTheSameTime(t *testing.T) {
	tellings := someTellings()
	wrong := make([]int, len(tellings))
	var all sync.WaitGroup
	for i, one := range tellings {
		all.Go(func() {
			for range 500 {
				if one.call() != one.want {
					wrong[i]++
				}
			}
		})
	}
	all.Wait()
	if slices.Max(wrong) > 0 {
		t.Errorf("P2: of 500 calls each, beside others, so many answer wrongly: %v", wrong)
	}
}
