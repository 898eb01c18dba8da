package spotter

import (
	"maps"
	"slices"
	"strconv"
	"strings"
)

// record is what one line tells of a read: a place, or that it has none.
type record interface {
	told() read // the read as it stands in the line
	flag(first bool) int
}

type place struct {
	read        read
	flipped     bool
	start       int
	errors      int
	letters     string
	differences string
}

func (p place) told() read {
	return p.read
}

func (p place) flag(first bool) int {
	sum := 0
	if p.flipped {
		sum += 16
	}
	if !first {
		sum += 256
	}
	return sum
}

type none struct {
	read read
}

func (n none) told() read {
	return n.read
}

func (n none) flag(_ bool) int {
	return 4
}

// turned tells the read as it is on the other strand.
func (r read) turned() read {
	return read{name: r.name, bases: flip(r.bases), marks: backwards(r.marks)}
}

// recordsOf tells the records of a read in the order of their lines.
func recordsOf(within reference, one read, by settings, workers int) []record {
	records := placesOf(within, one, false, by, workers)
	records = append(records, placesOf(within, one.turned(), true, by, workers)...)
	if len(records) == 0 {
		return []record{none{read: one}}
	}
	return records
}

// placesOf tells the places on one strand, by rising ends.
func placesOf(within reference, one read, flipped bool, by settings, workers int) []record {
	least := leastErrors(within.bases, one.bases, by, workers)
	var records []record
	for _, end := range slices.Sorted(maps.Keys(least)) {
		at := find{end: end, errors: least[end]}
		start := startOf(within.bases, one.bases, at)
		against := within.bases[start:end]
		letters := laid(one.bases, against)
		records = append(records, place{
			read:        one,
			flipped:     flipped,
			start:       start,
			errors:      at.errors,
			letters:     inRuns(letters),
			differences: differences(letters, one.bases, against),
		})
	}
	return records
}

// tellPlaces is the writer: it tells the reference, and then all records.
func tellPlaces(within reference, reads []read, by settings, workers int) string {
	var text strings.Builder
	writeLine(&text, "@"+within.name, strconv.Itoa(len(within.bases)))
	for _, one := range reads {
		for i, each := range recordsOf(within, one, by, workers) {
			writeRecord(&text, within.name, each, i == 0)
		}
	}
	return text.String()
}

func writeRecord(text *strings.Builder, refName string, each record, first bool) {
	one := each.told()
	parts := []string{one.name, strconv.Itoa(each.flag(first))}
	switch kind := each.(type) {
	case place:
		parts = append(parts, refName, strconv.Itoa(kind.start+1), kind.letters, strconv.Itoa(kind.errors), kind.differences)
	case none:
		parts = append(parts, "*", "0", "*", "-", "-")
	}
	parts = append(parts, one.bases, one.marks)
	writeLine(text, parts...)
}

func writeLine(text *strings.Builder, parts ...string) {
	text.WriteString(strings.Join(parts, "\t"))
	text.WriteByte('\n')
}
