package spotter

import "strings"

const (
	maxRefText   = 400 // bytes
	maxReadsText = 600 // bytes
	maxName      = 10
	maxRef       = 200 // bases
	maxReads     = 5
	maxRead      = 30 // bases
)

// reference and read hold what their texts say, the bases in great letters, so
// that nobody behind the reader has to mind small ones.
type reference struct {
	name  string
	bases string
}

type read struct {
	name  string
	bases string
	marks string
}

// fault is what a reader panics with to give up. It has a type of its own so
// that attempt can tell it from every other panic.
type fault struct {
	code  Errno
	place int
}

// reader goes through a text once, from its first byte on.
type reader struct {
	text  string
	place int
	code  Errno // what is answered if the text is not as it must be
}

func (r *reader) giveUp() {
	panic(fault{code: r.code, place: r.place})
}

func (r *reader) atEnd() bool {
	return r.place == len(r.text)
}

func (r *reader) expect(b byte) {
	if r.atEnd() || r.text[r.place] != b {
		r.giveUp()
	}
	r.place++
}

func (r *reader) expectEnd() {
	if !r.atEnd() {
		r.giveUp()
	}
}

// take reads as many bytes that fit as stand here, but never more than most,
// so that a byte too many is met by whatever is expected next.
func (r *reader) take(fits func(byte) bool, least int, most int) string {
	start := r.place
	for r.place-start < most && !r.atEnd() && fits(r.text[r.place]) {
		r.place++
	}
	if r.place-start < least {
		r.giveUp()
	}
	return r.text[start:r.place]
}

// nameLine reads the line that begins a reference or a read.
func (r *reader) nameLine(sign byte) string {
	r.expect(sign)
	name := r.take(isNameByte, 1, maxName)
	r.expect('\n')
	return name
}

func readReference(text string) reference {
	r := &reader{text: text, code: ErrRef}
	name := r.nameLine('>')
	var bases strings.Builder
	bases.WriteString(r.baseLine(maxRef))
	for !r.atEnd() {
		bases.WriteString(r.baseLine(maxRef - bases.Len()))
	}
	return reference{name: name, bases: greatLetters(bases.String())}
}

// baseLine reads one line of bases. Where most is 0 no line can stand, and it
// gives up at once.
func (r *reader) baseLine(most int) string {
	bases := r.take(isBase, 1, most)
	r.expect('\n')
	return bases
}

func readReads(text string) []read {
	r := &reader{text: text, code: ErrReads}
	var reads []read
	for len(reads) < maxReads && !r.atEnd() {
		reads = append(reads, r.oneRead())
	}
	r.expectEnd()
	return reads
}

func (r *reader) oneRead() read {
	name := r.nameLine('@')
	bases := r.baseLine(maxRead)
	r.expect('+')
	r.expect('\n')
	marks := r.take(isMark, len(bases), len(bases))
	r.expect('\n')
	return read{name: name, bases: greatLetters(bases), marks: marks}
}

// readBases reads a text that is nothing but bases, least to most of them, and
// tells them in great letters. It asks for the length ahead of all else: a
// text that is far too long must not be gone through.
func readBases(text string, least int, most int) string {
	r := &reader{text: text, code: ErrBase}
	if len(text) < least || len(text) > most {
		r.giveUp()
	}
	bases := r.take(isBase, least, most)
	r.expectEnd()
	return greatLetters(bases)
}

func isNameByte(b byte) bool {
	switch {
	case 'A' <= b && b <= 'Z', 'a' <= b && b <= 'z', '0' <= b && b <= '9':
		return true
	}
	return b == '_' || b == '.'
}

func isMark(b byte) bool {
	return 33 <= b && b <= 126
}
