package spotter_test

import (
	"math"
	"runtime"
	"strings"
	"testing"
	"time"

	"spotter/spotter"
)

// asRead writes one read; the marks are the first of a row of different ones.
func asRead(name, bases string) string {
	return "@" + name + "\n" + bases + "\n+\n" + manyMarks[:len(bases)] + "\n"
}

const manyMarks = "123456789abcdefghijklmnopqrstu"

// asLines writes lines with a tab where the test has a blank.
func asLines(lines []string) string {
	text := ""
	for _, line := range lines {
		text += strings.ReplaceAll(line, " ", "\t") + "\n"
	}
	return text
}

func mapped(ref, reads string, k, q, step, workers int) func() told {
	return func() told {
		text, code, place := spotter.Map(ref, reads, k, q, step, workers)
		return told{text, code, place}
	}
}

type ways struct{ q, step, workers int }

func wantMapBy(t *testing.T, ref, reads string, k int, by ways, want string) {
	t.Helper()
	got := mapped(ref, reads, k, by.q, by.step, by.workers)()
	if got != (told{text: want}) {
		t.Errorf("P6, P7: Map(%.70q, %.70q, %d, %v) = %v, want %q", ref, reads, k, by, got, want)
	}
}

func wantMap(t *testing.T, ref, reads string, k int, lines ...string) {
	t.Helper()
	for _, by := range []ways{{1, 1, 1}, {2, 3, 2}, {3, 5, 8}, {8, 200, 1}} {
		wantMapBy(t, ref, reads, k, by, asLines(lines))
	}
}

func refuseMap(t *testing.T, ref, reads string, k, q, step, workers int, want spotter.Errno, place int) {
	t.Helper()
	got := mapped(ref, reads, k, q, step, workers)()
	if got != (told{code: want, place: place}) {
		t.Errorf("P6: Map(%.70q, %.70q, %d, %d, %d, %d) = %v, want the error %d at %d", ref, reads, k, q, step, workers, got, want, place)
	}
}

func TestMapExamples(t *testing.T) {
	wantMap(t, tenRef, "@a\nGTA\n+\n123\n", 0, "@r 10", "a 0 r 3 3M 0 3 GTA 123", "a 272 r 4 3M 0 3 TAC 321")
	wantMap(t, tenRef, "@a\nGGTA\n+\n1234\n", 1, "@r 10",
		"a 0 r 3 1I3M 1 3 GGTA 1234",
		"a 272 r 4 2M1I1M 1 3 TACC 4321",
		"a 272 r 4 4M 1 3G0 TACC 4321")
	wantMap(t, tenRef, "@a\nN\n+\n!\n", 0, "@r 10", "a 4 * 0 * - - N !")
}

func TestMapWithoutReads(t *testing.T) {
	wantMap(t, tenRef, "", 0, "@r 10")
	wantMap(t, tenRef, "", 6, "@r 10")
	wantMap(t, ">Long_n.ame\nA\nC\nG\n", "", 3, "@Long_n.ame 3")
	wantMap(t, ">r\n"+strings.Repeat("A", 200)+"\n", "", 0, "@r 200")
}

func TestMapReadsInTheirOrder(t *testing.T) {
	wantMap(t, tenRef, asRead("z", "CCC")+asRead("a", "TTT")+asRead("m", "CC")+asRead("a", "TTT")+asRead("_.9", "AAA"), 0, "@r 10",
		"z 4 * 0 * - - CCC 123",
		"a 0 r 8 3M 0 3 TTT 123",
		"m 4 * 0 * - - CC 12",
		"a 0 r 8 3M 0 3 TTT 123",
		"_.9 16 r 8 3M 0 3 TTT 321")
}

func TestMapMarksAreNotChanged(t *testing.T) {
	wantMap(t, ">r\nCCT\n", "@a\nAGG\n+\n!*~\n", 0, "@r 3", "a 16 r 1 3M 0 3 CCT ~*!")
	wantMap(t, ">r\nAGG\n", "@a\nagg\n+\nagA\n", 0, "@r 3", "a 0 r 1 3M 0 3 AGG agA")
	wantMap(t, ">r\nAGG\n", "@a\nTTT\n+\n@@\"\n", 0, "@r 3", "a 4 * 0 * - - TTT @@\"")
}

func TestMapFlags(t *testing.T) {
	wantMap(t, ">r\nCCC\n", asRead("a", "CC"), 0, "@r 3", "a 0 r 1 2M 0 2 CC 12", "a 256 r 2 2M 0 2 CC 12")
	wantMap(t, ">r\nCCC\n", asRead("a", "GG"), 0, "@r 3", "a 16 r 1 2M 0 2 CC 21", "a 272 r 2 2M 0 2 CC 21")
	wantMap(t, ">r\nGGCC\n", asRead("a", "CC")+asRead("b", "GG"), 0, "@r 4",
		"a 0 r 3 2M 0 2 CC 12", "a 272 r 1 2M 0 2 GG 21",
		"b 0 r 1 2M 0 2 GG 12", "b 272 r 3 2M 0 2 CC 21")
}

func TestMapBasesThatAreTheirOwnFlip(t *testing.T) {
	wantMap(t, ">r\nTTACGTAA\n", asRead("a", "ACGT"), 0, "@r 8", "a 0 r 3 4M 0 4 ACGT 1234", "a 272 r 3 4M 0 4 ACGT 4321")
	wantMap(t, ">r\nA\n", asRead("a", "AT"), 1, "@r 1", "a 0 r 1 1M1I 1 1 AT 12", "a 272 r 1 1M1I 1 1 AT 21")
}

func TestMapAtTheReferencesEnds(t *testing.T) {
	wantMap(t, ">r\nACCTTTTT\n", asRead("a", "ACC"), 0, "@r 8", "a 0 r 1 3M 0 3 ACC 123")
	wantMap(t, ">r\nTTTTTACC\n", asRead("a", "ACC"), 0, "@r 8", "a 0 r 6 3M 0 3 ACC 123")
	wantMap(t, ">r\nGGTTTTTT\n", asRead("a", "ACC"), 0, "@r 8", "a 16 r 1 3M 0 3 GGT 321")
	wantMap(t, ">r\nTTTTTGGT\n", asRead("a", "ACC"), 0, "@r 8", "a 16 r 6 3M 0 3 GGT 321")
	// The reference has fewer bases than the read.
	wantMap(t, ">r\nGATTACA\n", asRead("a", "GATTACAGG"), 2, "@r 7", "a 0 r 1 7M2I 2 7 GATTACAGG 123456789")
	wantMap(t, ">r\nGATTACA\n", asRead("a", "CCGATTACA"), 2, "@r 7", "a 0 r 1 2I7M 2 7 CCGATTACA 123456789")
	wantMap(t, ">r\nGATTACA\n", asRead("a", "CCGATTACA"), 1, "@r 7", "a 4 * 0 * - - CCGATTACA 123456789")
}

func TestMapOneBase(t *testing.T) {
	wantMap(t, ">r\nA\n", asRead("a", "A"), 0, "@r 1", "a 0 r 1 1M 0 1 A 1")
	wantMap(t, ">r\nT\n", asRead("a", "A"), 0, "@r 1", "a 16 r 1 1M 0 1 T 1")
	wantMap(t, ">r\nC\n", asRead("a", "A"), 0, "@r 1", "a 4 * 0 * - - A 1")
	wantMap(t, ">r\nA\n", asRead("a", "AC"), 1, "@r 1", "a 0 r 1 1M1I 1 1 AC 12")
}

func TestMapEachEndWithItsOwnErrors(t *testing.T) {
	wantMap(t, ">r\nAAAA\n", asRead("a", "AAAA"), 3, "@r 4",
		"a 0 r 1 3I1M 3 1 AAAA 1234",
		"a 256 r 1 2I2M 2 2 AAAA 1234",
		"a 256 r 1 1I3M 1 3 AAAA 1234",
		"a 256 r 1 4M 0 4 AAAA 1234")
	wantMap(t, ">r\nACGT\n", asRead("a", "AC"), 1, "@r 4",
		"a 0 r 1 1M1I 1 1 AC 12",
		"a 256 r 1 2M 0 2 AC 12",
		"a 256 r 1 2M1D 1 2^G0 AC 12",
		"a 272 r 3 1M1I 1 1 GT 21",
		"a 272 r 3 2M 0 2 GT 21")
}

func TestMapTheGreatestStart(t *testing.T) {
	// From 1 on AACGGTT is changed in one base, from 0 on it leaves one out.
	wantMap(t, ">r\nAACCGGTT\n", asRead("a", "AACGGTT"), 1, "@r 8",
		"a 0 r 2 7M 1 1C5 AACGGTT 1234567",
		"a 272 r 1 7M 1 5G1 AACCGTT 7654321",
		"a 272 r 1 4M1D3M 1 4^G3 AACCGTT 7654321")
}

func TestMapRunsOfLetters(t *testing.T) {
	wantMap(t, ">r\nAACTTGACC\n", asRead("a", "AACGACC"), 2, "@r 9", "a 0 r 1 3M2D4M 2 3^TT4 AACGACC 1234567")
	wantMap(t, ">r\nAACGACC\n", asRead("a", "AACTTGACC"), 2, "@r 7", "a 0 r 1 3M2I4M 2 7 AACTTGACC 123456789")
	wantMap(t, ">r\nACAGTACA\n", asRead("a", "ACATACA"), 1, "@r 8", "a 0 r 1 3M1D4M 1 3^G4 ACATACA 1234567")
	wantMap(t, ">r\nCCGTTATAACGGC\n", asRead("a", "CCGTTATAACGGC"), 0, "@r 13", "a 0 r 1 13M 0 13 CCGTTATAACGGC 123456789abcd")
}

func TestMapDifferencesBesideEachOther(t *testing.T) {
	wantMap(t, ">r\nAAGGTCC\n", asRead("a", "AACCTCC"), 2, "@r 7", "a 0 r 1 7M 2 2G0G3 AACCTCC 1234567")
	wantMap(t, ">r\nGGATCTCGG\n", asRead("a", "GGAGG"), 4, "@r 9",
		"a 0 r 1 4I1M 4 1 GGAGG 12345",
		"a 256 r 1 3I2M 3 2 GGAGG 12345",
		"a 256 r 1 3M2I 2 3 GGAGG 12345",
		"a 256 r 1 3M1I1M 2 3T0 GGAGG 12345",
		"a 256 r 1 5M 2 3T0C0 GGAGG 12345",
		"a 256 r 1 3M1D2M 3 3^T0C0T0 GGAGG 12345",
		"a 256 r 1 3M2D2M 4 3^TC0T0C0 GGAGG 12345",
		"a 256 r 8 4I1M 4 1 GGAGG 12345",
		"a 256 r 8 3I2M 3 2 GGAGG 12345",
		"a 272 r 4 2I1M2I 4 1 CCTCC 54321",
		"a 272 r 4 2I1M1I1M 3 2 CCTCC 54321",
		"a 272 r 5 1I2M2I 3 2 CCTCC 54321",
		"a 272 r 5 1I2M1I1M 2 3 CCTCC 54321",
		"a 272 r 5 1I4M 2 3G0 CCTCC 54321",
		"a 272 r 5 1I3M1D1M 3 3^G0G0 CCTCC 54321")
}

func TestMapDifferencesAtTheEnds(t *testing.T) {
	wantMap(t, ">r\nTTGATTACATT\n", asRead("a", "CATTACC"), 2, "@r 11",
		"a 0 r 4 1I4M1I1M 2 5 CATTACC 1234567",
		"a 256 r 4 1I6M 2 5A0 CATTACC 1234567")
	wantMap(t, ">r\nTCGG\n", asRead("a", "ACGG"), 1, "@r 4", "a 0 r 2 1I3M 1 3 ACGG 1234")
	// Of the two C the second stands against the one that is there, since one
	// goes back from the end.
	wantMap(t, ">r\nCG\n", asRead("a", "GG"), 1, "@r 2", "a 0 r 2 1I1M 1 1 GG 12", "a 272 r 1 1I1M 1 1 CC 21", "a 272 r 1 2M 1 1G0 CC 21")
	wantMap(t, ">r\nTACAACCAT\n", asRead("a", "ACAACC"), 2, "@r 9",
		"a 0 r 2 4M2I 2 4 ACAACC 123456",
		"a 256 r 2 4M1I1M 1 5 ACAACC 123456",
		"a 256 r 2 6M 0 6 ACAACC 123456",
		"a 256 r 2 6M1D 1 6^A0 ACAACC 123456",
		"a 256 r 2 6M2D 2 6^AT0 ACAACC 123456")
}

func TestMapNAgreesWithNothing(t *testing.T) {
	wantMap(t, ">r\nNNNN\n", asRead("a", "NN"), 0, "@r 4", "a 4 * 0 * - - NN 12")
	wantMap(t, ">r\nAANNCC\n", asRead("a", "AANNCC"), 1, "@r 6", "a 4 * 0 * - - AANNCC 123456")
	wantMap(t, ">r\nAANNCC\n", asRead("a", "AANNCC"), 2, "@r 6", "a 0 r 1 6M 2 2N0N2 AANNCC 123456")
	wantMap(t, ">r\nAAGTCC\n", asRead("a", "AANNCC"), 2, "@r 6", "a 0 r 1 6M 2 2G0T2 AANNCC 123456")
	wantMap(t, ">r\nAACC\n", asRead("a", "NAACCN"), 2, "@r 4", "a 0 r 1 1I4M1I 2 4 NAACCN 123456")
	wantMap(t, ">r\nGGTTNC\n", asRead("a", "GNAACC"), 1, "@r 6", "a 16 r 1 6M 1 4N1 GGTTNC 654321")
	wantMap(t, ">r\nAANNCC\n", asRead("a", "AACC"), 2, "@r 6",
		"a 0 r 1 2M2I 2 2 AACC 1234",
		"a 256 r 1 2M1I1M 2 2N0 AACC 1234",
		"a 256 r 1 4M 2 2N0N0 AACC 1234",
		"a 256 r 2 4M 2 1N0N1 AACC 1234",
		"a 256 r 5 2I2M 2 2 AACC 1234")
}

func TestMapSmallLetters(t *testing.T) {
	wantMap(t, ">r\nacgta\ncgttt\n", "@a\ngta\n+\n123\n", 0, "@r 10", "a 0 r 3 3M 0 3 GTA 123", "a 272 r 4 3M 0 3 TAC 321")
	wantMap(t, tenRef, "@a\ngGTa\n+\n1234\n", 1, "@r 10",
		"a 0 r 3 1I3M 1 3 GGTA 1234",
		"a 272 r 4 2M1I1M 1 3 TACC 4321",
		"a 272 r 4 4M 1 3G0 TACC 4321")
	wantMap(t, ">r\naanncc\n", asRead("a", "AAnNCC"), 2, "@r 6", "a 0 r 1 6M 2 2N0N2 AANNCC 123456")
	wantMap(t, ">r\naacttgacc\n", asRead("a", "aacgacc"), 2, "@r 9", "a 0 r 1 3M2D4M 2 3^TT4 AACGACC 1234567")
	wantMap(t, ">r\nacgt\n", asRead("a", "ccn"), 0, "@r 4", "a 4 * 0 * - - CCN 123")
}

func TestMapAsManyReadsAndBasesAsThereMayBe(t *testing.T) {
	half := strings.Repeat("AC", 50)
	ref := ">r\n" + half + "\n" + strings.Repeat("GA", 45) + "TTTTTTTTTT\n"
	long := "ACACACACACACACACACGAGAGAGAGAGA"
	lines := []string{"@r 200"}
	var reads string
	for _, name := range []string{"a", "b", "c", "d", "e"} {
		reads += asRead(name, long)
		lines = append(lines, name+" 0 r 83 30M 0 30 "+long+" "+manyMarks)
	}
	wantMap(t, ref, reads, 0, lines...)
	wantMap(t, ref, asRead("a", strings.Repeat("A", 30)), 0, "@r 200", "a 4 * 0 * - - "+strings.Repeat("A", 30)+" "+manyMarks)
	wantMap(t, ref, asRead("a", "ATTTTTTTTTT"), 0, "@r 200", "a 0 r 190 11M 0 11 ATTTTTTTTTT 123456789ab")
	refuseMap(t, ref, reads+asRead("f", "A"), 0, 1, 1, 1, spotter.ErrReads, len(reads))
	refuseMap(t, ref, asRead("a", long)+"@b\n"+long+"A\n", 0, 1, 1, 1, spotter.ErrReads, len(asRead("a", long))+33)
	refuseMap(t, ref+"A\n", reads, 0, 1, 1, 1, spotter.ErrRef, len(ref))
}

func TestMapNumbersThatMayNotBe(t *testing.T) {
	const eight = "ACCAACGA"
	ref := ">r\nTT" + eight + "\n"
	reads := asRead("a", eight)
	want := asLines([]string{"@r 10", "a 0 r 3 8M 0 8 ACCAACGA 12345678"})
	for q := 1; q <= 8; q++ {
		wantMapBy(t, ref, reads, 0, ways{q, 1, 1}, want)
	}
	for step := 1; step <= 200; step++ {
		wantMapBy(t, ref, reads, 0, ways{1, step, 1}, want)
	}
	for workers := 1; workers <= 8; workers++ {
		wantMapBy(t, ref, reads, 0, ways{1, 1, workers}, want)
	}
	for _, reads := range []string{"", reads, asRead("a", strings.Repeat("A", 30))} {
		for _, bad := range []int{math.MinInt, math.MinInt32, -1, 7, 8, 1 << 32, math.MaxInt32, math.MaxInt} {
			refuseMap(t, ref, reads, bad, 1, 1, 1, spotter.ErrArg, 0)
		}
		for _, bad := range []int{math.MinInt, -1, 0, 9, 1<<32 + 1, math.MaxInt} {
			refuseMap(t, ref, reads, 0, bad, 1, 1, spotter.ErrArg, 0)
			refuseMap(t, ref, reads, 0, 1, 1, bad, spotter.ErrArg, 0)
		}
		for _, bad := range []int{math.MinInt, -1, 0, 201, 1<<32 + 1, math.MaxInt} {
			refuseMap(t, ref, reads, 0, 1, bad, 1, spotter.ErrArg, 0)
		}
	}
}

func TestMapErrorsAreFewerThanTheBasesOfEachRead(t *testing.T) {
	for count := 1; count <= 8; count++ {
		short := asRead("s", strings.Repeat("A", count))
		long := asRead("l", strings.Repeat("A", 12))
		for k := 0; k <= 8; k++ {
			for _, reads := range []string{short, short + long + long, long + short + long, long + long + short} {
				if k >= count || k > 6 {
					refuseMap(t, tenRef, reads, k, 1, 1, 1, spotter.ErrArg, 0)
				} else if _, code, place := spotter.Map(tenRef, reads, k, 1, 1, 1); code != spotter.OK || place != 0 {
					t.Errorf("P6: Map refuses %d errors for %q: %d, %d", k, reads, code, place)
				}
			}
		}
	}
}

func TestMapWhichErrorIsFirst(t *testing.T) {
	longRef := tenRef + strings.Repeat("A", 386)
	longReads := strings.Repeat("@", 601)
	for _, by := range []ways{{1, 1, 1}, {0, 1, 1}, {1, 201, 1}, {1, 1, 9}, {-1, -1, -1}} {
		for _, k := range []int{-1, 0, 7, math.MaxInt} {
			refuse := func(ref, reads string, want spotter.Errno, place int) {
				t.Helper()
				refuseMap(t, ref, reads, k, by.q, by.step, by.workers, want, place)
			}
			refuse(longRef, "", spotter.ErrLong, 0)
			refuse(longRef, "x", spotter.ErrLong, 0)
			refuse(longRef, longReads, spotter.ErrLong, 0)
			refuse(tenRef, longReads, spotter.ErrLong, 0)
			refuse(">r\nX\n", longReads, spotter.ErrLong, 0)
			refuse(">r\nACXT\n", "@a\nX", spotter.ErrRef, 5)
			refuse(">r\nACXT\n", "", spotter.ErrRef, 5)
			refuse("", "", spotter.ErrRef, 0)
			refuse(longRef[:400], "x", spotter.ErrRef, 205)
			refuse(tenRef, "@a\nAC\n+\nI\n", spotter.ErrReads, 9)
			refuse(tenRef, longReads[:600], spotter.ErrReads, 1)
			refuse(tenRef, "x", spotter.ErrReads, 0)
		}
	}
}

// TestMapTellsTheFaultsOfCheck holds the two against each other where a byte of
// the texts is changed; what Check tells is tested elsewhere.
func TestMapTellsTheFaultsOfCheck(t *testing.T) {
	reads := asRead("a", "ACG") + asRead("b", "Tn")
	compare := func(ref, reads string) {
		code, place := spotter.Check(ref, reads)
		text, mapCode, mapPlace := spotter.Map(ref, reads, 0, 2, 3, 2)
		if mapCode != code || mapPlace != place || (text == "") != (code != spotter.OK) {
			t.Errorf("P6: Map(%q, %q) = %q, %d, %d, but Check tells %d, %d", ref, reads, text, mapCode, mapPlace, code, place)
		}
	}
	changed(goodRef, someBytes, func(s string) { compare(s, reads) })
	changed(reads, someBytes, func(s string) { compare(goodRef, s) })
}

func TestMapEndsAllGoroutines(t *testing.T) {
	before := runtime.NumGoroutine()
	reads := strings.Repeat(asRead("a", "GGTA"), 5)
	for range 50 {
		for workers := 1; workers <= 8; workers++ {
			mapped(tenRef, reads, 1, 1, 1, workers)()
			mapped(tenRef, reads, 0, 2, 200, workers)()
			mapped(tenRef, "", 0, 2, 200, workers)()
			mapped(tenRef, reads, 4, 2, 200, workers)()
		}
	}
	// One that has done all its work may still be counted for a moment.
	for tries := 0; runtime.NumGoroutine() > before; tries++ {
		if tries == 2000 {
			t.Fatalf("Ways: there were %d goroutines, and are %d behind Map", before, runtime.NumGoroutine())
		}
		time.Sleep(time.Millisecond)
	}
}
