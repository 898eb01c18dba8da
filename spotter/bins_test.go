package spotter_test

import (
	"math"
	"strconv"
	"strings"
	"testing"

	"spotter/spotter"
)

const tenRef = ">r\nACGTA\nCGTTT\n"

func wantBins(t *testing.T, ref, bases string, k, q, step int, want string) {
	t.Helper()
	if got, code := spotter.Bins(ref, bases, k, q, step); got != want || code != spotter.OK {
		t.Errorf("P5: Bins(%.70q, %q, %d, %d, %d) = %q, %d, want %q", ref, bases, k, q, step, got, code, want)
	}
}

func refuseBins(t *testing.T, ref, bases string, k, q, step int, want spotter.Errno) {
	t.Helper()
	if got, code := spotter.Bins(ref, bases, k, q, step); got != "" || code != want {
		t.Errorf("P5: Bins(%.70q, %.70q, %d, %d, %d) = %q, %d, want the error %d", ref, bases, k, q, step, got, code, want)
	}
}

// firstNumbers tells what is answered where the first count stretches, and no
// others, are looked at.
func firstNumbers(count int) string {
	var numbers []string
	for number := range count {
		numbers = append(numbers, strconv.Itoa(number))
	}
	return strings.Join(numbers, ",")
}

func TestBinsOrdinary(t *testing.T) {
	wantBins(t, tenRef, "GTA", 0, 2, 4, "0")
	wantBins(t, tenRef, "CGTA", 0, 2, 4, "0")
	wantBins(t, tenRef, "CGTT", 0, 2, 4, "1")
	wantBins(t, tenRef, "CGTC", 0, 2, 4, "")
	wantBins(t, tenRef, "TTT", 0, 3, 3, "2")
	wantBins(t, tenRef, "ACGT", 0, 4, 4, "0,1")
	wantBins(t, tenRef, "ACGTACGT", 1, 3, 2, "0,1")
}

func TestBinsCountsARunAsOftenAsItStandsInBoth(t *testing.T) {
	// t is 4: AAAA has one run three times, four are asked for.
	wantBins(t, ">r\nAAAA\n", "AAAAA", 0, 2, 200, "")
	wantBins(t, ">r\nAAAAA\n", "AAAAA", 0, 2, 200, "0")
	wantBins(t, ">r\nAAAAAAAA\n", "AAACC", 0, 2, 200, "")
	wantBins(t, ">r\nAAAAAAAACC\n", "AAACC", 0, 2, 200, "0")
}

func TestBinsRunsStandBesideEachOther(t *testing.T) {
	// CA stands over a line's end, and is a run like others.
	wantBins(t, ">r\nGGC\nAGG\n", "CA", 0, 2, 200, "0")
	wantBins(t, ">r\nCGA\n", "CA", 0, 2, 200, "")
}

func TestBinsHowLongAStretchIs(t *testing.T) {
	// The one C stands at 9; the stretches have step + 2 + k bases.
	ref := ">r\nAAAAAAAAACAAAAAAAAAA\n"
	wantBins(t, ref, "GC", 0, 2, 4, "")
	wantBins(t, ref, "CC", 0, 1, 4, "")
	wantBins(t, ref, "AC", 0, 2, 4, "1,2")
	wantBins(t, ref, "AC", 0, 2, 3, "2")
	wantBins(t, ref, "GGC", 1, 1, 4, "")
	wantBins(t, ref, "GGC", 2, 1, 4, "1,2")
	wantBins(t, ref, "GGC", 2, 1, 5, "0,1")
	wantBins(t, ref, "GGC", 2, 1, 6, "0,1")
	wantBins(t, ref, "GGGC", 3, 1, 2, "1,2,3,4")
	wantBins(t, ref, "GGGC", 3, 1, 1, "2,3,4,5,6,7,8,9")
}

func TestBinsTheReferencesEndCutsStretchesOff(t *testing.T) {
	// From 8 on there are but two bases, TT.
	wantBins(t, tenRef, "TT", 0, 2, 4, "1,2")
	wantBins(t, tenRef, "TTT", 0, 2, 4, "1")
	wantBins(t, tenRef, "TT", 0, 2, 9, "0")
	wantBins(t, tenRef, "TT", 0, 1, 9, "0")
	wantBins(t, tenRef, "T", 0, 1, 9, "0,1")
	// No stretch begins where the reference has ended.
	wantBins(t, tenRef, "T", 0, 2, 5, "0,1")
	wantBins(t, tenRef, "T", 0, 2, 10, "0")
	wantBins(t, tenRef, "T", 0, 2, 11, "0")
	wantBins(t, ">r\nA\n", "C", 0, 2, 1, "0")
}

func TestBinsWhereNoRunIsNeeded(t *testing.T) {
	// t is 1, 0, -1 and less.
	wantBins(t, tenRef, "CCC", 0, 3, 5, "")
	wantBins(t, tenRef, "CCC", 0, 4, 5, "0,1")
	wantBins(t, tenRef, "CCC", 0, 5, 5, "0,1")
	wantBins(t, tenRef, "TAGG", 1, 2, 5, "0")
	wantBins(t, tenRef, "AAAA", 1, 2, 5, "")
	wantBins(t, tenRef, "AAA", 1, 2, 5, "0,1")
	wantBins(t, tenRef, "AAA", 2, 8, 5, "0,1")
	wantBins(t, tenRef, "NNN", 2, 8, 5, "0,1")
}

func TestBinsNIsInNoRun(t *testing.T) {
	wantBins(t, ">r\nNNNN\n", "NNN", 0, 1, 4, "")
	wantBins(t, ">r\nNNNN\n", "NNN", 0, 3, 4, "")
	wantBins(t, ">r\nNNNN\n", "NNN", 0, 4, 4, "0")
	wantBins(t, ">r\nACNGT\n", "ACNGT", 1, 2, 5, "0")
	wantBins(t, ">r\nACNGT\n", "ACNGT", 0, 2, 5, "")
	wantBins(t, ">r\nACNGT\n", "ACGT", 0, 2, 5, "")
	wantBins(t, ">r\nACGT\n", "ANA", 0, 1, 5, "")
	wantBins(t, ">r\nACGT\n", "NAC", 1, 1, 5, "0")
	wantBins(t, ">r\nACGT\n", "ACN", 1, 1, 5, "0")
}

func TestBinsSmallLetters(t *testing.T) {
	wantBins(t, ">r\nacgtaCGttt\n", "GTA", 0, 2, 4, "0")
	wantBins(t, tenRef, "gTa", 0, 2, 4, "0")
	wantBins(t, ">r\nacgtacgttt\n", "gta", 0, 2, 4, "0")
	wantBins(t, ">r\nnnnn\n", "nnn", 0, 1, 4, "")
	wantBins(t, ">r\nacngt\n", "ACNGT", 0, 2, 5, "")
	wantBins(t, ">r\nACNGT\n", "acngt", 0, 2, 5, "")
}

func TestBinsAsManyBasesAsThereMayBe(t *testing.T) {
	full := ">r\n" + strings.Repeat("A", 200) + "\n"
	wantBins(t, full, "A", 0, 1, 1, firstNumbers(200))
	wantBins(t, full, "A", 0, 1, 199, "0,1")
	wantBins(t, full, "A", 0, 1, 200, "0")
	wantBins(t, full, strings.Repeat("A", 30), 0, 8, 1, firstNumbers(171))
	wantBins(t, full, strings.Repeat("A", 30), 6, 4, 1, firstNumbers(195))
	refuseBins(t, full, strings.Repeat("A", 31), 0, 1, 1, spotter.ErrBase)
	refuseBins(t, full, strings.Repeat("A", 1<<22), 0, 1, 1, spotter.ErrBase)
	refuseBins(t, full, "", 0, 1, 1, spotter.ErrBase)
	refuseBins(t, ">r\n"+strings.Repeat("A", 201)+"\n", "A", 0, 1, 1, spotter.ErrRef)
}

func TestBinsNumbersThatMayNotBe(t *testing.T) {
	const eight = "ACGTACGT"
	for _, k := range []int{0, 1, 5, 6} {
		wantBins(t, ">r\nACGTACGT\n", eight, k, 8, 200, "0")
	}
	for _, q := range []int{1, 2, 7, 8} {
		wantBins(t, ">r\nACGTACGT\n", eight, 0, q, 200, "0")
	}
	for _, step := range []int{1, 2, 199, 200} {
		wantBins(t, ">r\nA\n", eight, 6, 8, step, "0")
	}
	for _, bad := range []int{math.MinInt, math.MinInt32, -1, 7, 8, 1 << 32, math.MaxInt32, math.MaxInt} {
		refuseBins(t, tenRef, eight, bad, 1, 1, spotter.ErrArg)
		refuseBins(t, tenRef, strings.Repeat("A", 30), bad, 1, 1, spotter.ErrArg)
	}
	for _, bad := range []int{math.MinInt, math.MinInt32, -1, 0, 9, 1<<32 + 1, math.MaxInt32, math.MaxInt} {
		refuseBins(t, tenRef, eight, 0, bad, 1, spotter.ErrArg)
		refuseBins(t, tenRef, eight, 6, bad, 1, spotter.ErrArg)
	}
	for _, bad := range []int{math.MinInt, math.MinInt32, -1, 0, 201, 1<<32 + 1, math.MaxInt32, math.MaxInt} {
		refuseBins(t, tenRef, eight, 0, 1, bad, spotter.ErrArg)
		refuseBins(t, tenRef, eight, 6, 8, bad, spotter.ErrArg)
	}
}

func TestBinsErrorsAreFewerThanBases(t *testing.T) {
	for count := 1; count <= 8; count++ {
		bases := strings.Repeat("A", count)
		for k := 0; k <= 8; k++ {
			if k < count && k <= 6 {
				wantBins(t, ">r\nAAAAAAAA\n", bases, k, 8, 200, "0")
			} else {
				refuseBins(t, ">r\nAAAAAAAA\n", bases, k, 8, 200, spotter.ErrArg)
			}
		}
	}
}

func TestBinsEveryByte(t *testing.T) {
	for i := range 256 {
		b := string([]byte{byte(i)})
		for _, bases := range []string{b, b + "A", "A" + b, "A" + b + "A"} {
			if strings.Contains("ACGTNacgtn", b) {
				wantBins(t, tenRef, bases, 0, 8, 10, "0")
			} else {
				refuseBins(t, tenRef, bases, 0, 8, 10, spotter.ErrBase)
			}
		}
	}
}

func TestBinsWhichErrorIsFirst(t *testing.T) {
	long := strings.Repeat("A", 401)
	tooMany := strings.Repeat("A", 31)
	for _, bases := range []string{"", "X", tooMany, "ACG"} {
		for _, k := range []int{-1, 0} {
			refuseBins(t, long, bases, k, 1, 1, spotter.ErrLong)
			refuseBins(t, tenRef+strings.Repeat("x", 386), bases, k, 0, 0, spotter.ErrLong)
			refuseBins(t, long[:400], bases, k, 1, 1, spotter.ErrRef)
			refuseBins(t, "", bases, k, 1, 1, spotter.ErrRef)
			refuseBins(t, tenRef+"\n", bases, k, 9, 0, spotter.ErrRef)
		}
	}
	for _, bases := range []string{"", "X", "ACX", tooMany} {
		refuseBins(t, tenRef, bases, 0, 1, 1, spotter.ErrBase)
		refuseBins(t, tenRef, bases, -1, 1, 1, spotter.ErrBase)
		refuseBins(t, tenRef, bases, 7, 0, 201, spotter.ErrBase)
		refuseBins(t, tenRef, bases, 0, 9, 1, spotter.ErrBase)
		refuseBins(t, tenRef, bases, 0, 1, 0, spotter.ErrBase)
	}
}

func TestBinsOfWrongReferences(t *testing.T) {
	for _, ref := range []string{"", ">", ">r", ">r\n", ">r\nA", ">\nA\n", "r\nA\n", ">r\nAXA\n", ">r\n\nA\n", ">01234567890\nA\n", ">r s\nA\n", "@r\nA\n", ">r\nA\n\n"} {
		refuseBins(t, ref, "A", 0, 1, 1, spotter.ErrRef)
	}
	wantBins(t, ">rr\n"+strings.Repeat("A\n", 198), "A", 0, 1, 100, "0,1")
	refuseBins(t, ">rrr\n"+strings.Repeat("A\n", 198), "A", 0, 1, 100, spotter.ErrLong)
}
