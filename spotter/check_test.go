package spotter_test

import (
	"strings"
	"testing"

	"spotter/spotter"
)

const (
	goodRef   = ">r\nACGT\nnN\n"
	goodReads = "@a\nAC\n+\n!~\n@b.2\nt\n+\n@\n"
)

type answer struct {
	code  spotter.Errno
	place int
}

var fine = answer{spotter.OK, 0}

func check(ref, reads string) answer {
	code, place := spotter.Check(ref, reads)
	return answer{code, place}
}

func wantCheck(t *testing.T, ref, reads string, want answer) {
	t.Helper()
	if got := check(ref, reads); got != want {
		t.Errorf("P3: Check(%.70q, %.70q) = %v, want %v", ref, reads, got, want)
	}
}

func badRef(place int) answer   { return answer{spotter.ErrRef, place} }
func badReads(place int) answer { return answer{spotter.ErrReads, place} }

func oneRead(name string, count int) string {
	return "@" + name + "\n" + strings.Repeat("A", count) + "\n+\n" + strings.Repeat("!", count) + "\n"
}

func TestCheckExamples(t *testing.T) {
	wantCheck(t, ">r\nACGT\n", "", fine)
	wantCheck(t, ">r\nACXT\n", "", badRef(5))
	wantCheck(t, ">r", "", badRef(2))
	wantCheck(t, ">r\n", "", badRef(3))
	wantCheck(t, ">r\nACGT\n", "@a\nAC\n+\nI\n", badReads(9))
}

func TestCheckOrdinary(t *testing.T) {
	wantCheck(t, goodRef, goodReads, fine)
	wantCheck(t, goodRef, "", fine)
	wantCheck(t, ">A_b.9\nA\nCG\nT\n", oneRead("x", 1), fine)
}

func TestCheckLengthOfTexts(t *testing.T) {
	lines := strings.Repeat("A\n", 198)
	longest := ">rr\n" + lines
	if len(longest) != 400 {
		t.Fatalf("the longest reference has %d bytes", len(longest))
	}
	long := answer{spotter.ErrLong, 0}
	wantCheck(t, longest, "", fine)
	wantCheck(t, ">rrr\n"+lines, "", long)
	wantCheck(t, ">r\n"+strings.Repeat("A\n", 198)+"A", "", badRef(400))
	wantCheck(t, goodRef, strings.Repeat(oneRead("a", 1), 5)+strings.Repeat("x", 555), badReads(45))
	wantCheck(t, goodRef, strings.Repeat(oneRead("a", 1), 5)+strings.Repeat("x", 556), long)
	wantCheck(t, strings.Repeat("x", 400), strings.Repeat("x", 600), badRef(0))
	wantCheck(t, strings.Repeat("x", 1<<22), "", long)
	wantCheck(t, "", strings.Repeat("x", 1<<22), long)
}

func TestCheckWhichErrorIsFirst(t *testing.T) {
	long := answer{spotter.ErrLong, 0}
	wantCheck(t, "x", strings.Repeat("x", 601), long)
	wantCheck(t, strings.Repeat("x", 401), "x", long)
	wantCheck(t, strings.Repeat("x", 401), strings.Repeat("x", 601), long)
	wantCheck(t, ">r\nX\n", "x", badRef(3))
	wantCheck(t, ">r\nA", "@", badRef(4))
}

func TestCheckAsManyBasesAsThereMayBe(t *testing.T) {
	wantCheck(t, ">r\n"+strings.Repeat("A", 200)+"\n", "", fine)
	wantCheck(t, ">r\n"+strings.Repeat("A", 200), "", badRef(203))
	wantCheck(t, ">r\n"+strings.Repeat("A", 201)+"\n", "", badRef(203))
	wantCheck(t, ">r\n"+strings.Repeat("A", 200)+"\nA\n", "", badRef(204))
	wantCheck(t, ">r\n"+strings.Repeat("A", 200)+"\n\n", "", badRef(204))
	halves := ">r\n" + strings.Repeat("C", 100) + "\n" + strings.Repeat("g", 100)
	wantCheck(t, halves+"\n", "", fine)
	wantCheck(t, halves+"T\n", "", badRef(204))
	wantCheck(t, halves+"\nT\n", "", badRef(205))
	wantCheck(t, goodRef, oneRead("a", 30), fine)
	wantCheck(t, goodRef, oneRead("a", 31), badReads(33))
}

func TestCheckAsManyReadsAsThereMayBe(t *testing.T) {
	full := strings.Repeat(oneRead("0123456789", 30), 5)
	wantCheck(t, goodRef, full, fine)
	wantCheck(t, goodRef, full+oneRead("a", 1), badReads(len(full)))
	wantCheck(t, goodRef, full+"\n", badReads(len(full)))
	wantCheck(t, goodRef, full+"@", badReads(len(full)))
}

func TestCheckLengthOfNames(t *testing.T) {
	wantCheck(t, ">0123456789\nA\n", "", fine)
	wantCheck(t, ">0123456789a\nA\n", "", badRef(11))
	wantCheck(t, ">\nA\n", "", badRef(1))
	wantCheck(t, goodRef, oneRead("0123456789", 1), fine)
	wantCheck(t, goodRef, oneRead("0123456789a", 1), badReads(11))
	wantCheck(t, goodRef, oneRead("", 1), badReads(1))
}

func TestCheckTextsThatEndTooEarly(t *testing.T) {
	whole := map[int]bool{len(">r\nACGT\n"): true, len(goodRef): true}
	for n := range len(goodRef) + 1 {
		want := badRef(n)
		if whole[n] {
			want = fine
		}
		wantCheck(t, goodRef[:n], "", want)
	}
	whole = map[int]bool{0: true, len("@a\nAC\n+\n!~\n"): true, len(goodReads): true}
	for n := range len(goodReads) + 1 {
		want := badReads(n)
		if whole[n] {
			want = fine
		}
		wantCheck(t, goodRef, goodReads[:n], want)
	}
}

func TestCheckCountOfMarks(t *testing.T) {
	wantCheck(t, goodRef, "@a\nACG\n+\n!!!\n", fine)
	wantCheck(t, goodRef, "@a\nACG\n+\n!!\n", badReads(11))
	wantCheck(t, goodRef, "@a\nACG\n+\n!!!!\n", badReads(12))
	wantCheck(t, goodRef, "@a\nACG\n+\n\n", badReads(9))
	wantCheck(t, goodRef, "@a\nACG\nT\n+\n!!!!\n", badReads(7))
}

// TestCheckEveryByte puts each byte there is where a byte of each kind must
// stand.
func TestCheckEveryByte(t *testing.T) {
	const baseBytes = "ACGTNacgtn"
	const nameBytes = "ABCDEFGHIJKLMNOPQRSTUVWXYZabcdefghijklmnopqrstuvwxyz0123456789_."
	for i := range 256 {
		b := string([]byte{byte(i)})
		expect := func(ref, reads string, good bool, bad answer) {
			if good {
				bad = fine
			}
			wantCheck(t, ref, reads, bad)
		}
		expect(b+"r\nA\n", "", b == ">", badRef(0))
		expect(">"+b+"r\nA\n", "", strings.Contains(nameBytes, b), badRef(1))
		expect(">r\n"+b+"A\n", "", strings.Contains(baseBytes, b), badRef(3))
		expect(">r\nA\n"+b+"\n", "", strings.Contains(baseBytes, b), badRef(5))
		expect(goodRef, b+"a\nA\n+\n!\n", b == "@", badReads(0))
		expect(goodRef, "@"+b+"a\nA\n+\n!\n", strings.Contains(nameBytes, b), badReads(1))
		expect(goodRef, "@a\n"+b+"\n+\n!\n", strings.Contains(baseBytes, b), badReads(3))
		expect(goodRef, "@a\nA\n"+b+"\n!\n", b == "+", badReads(5))
		expect(goodRef, "@a\nA\n+"+b+"!\n", b == "\n", badReads(6))
		expect(goodRef, "@a\nA\n+\n"+b+"\n", i >= 33 && i <= 126, badReads(7))
		expect(goodRef, "@a\nA\n+\n!"+b, b == "\n", badReads(8))
	}
}

func TestCheckKeepsNothing(t *testing.T) {
	for range 3 {
		wantCheck(t, goodRef, goodReads, fine)
		wantCheck(t, ">r\nACXT\n", goodReads, badRef(5))
		wantCheck(t, goodRef, "@a\nAC\n+\nI\n", badReads(9))
		wantCheck(t, goodRef, strings.Repeat("@", 601), answer{spotter.ErrLong, 0})
	}
}
