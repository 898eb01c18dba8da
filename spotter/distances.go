package spotter

// The distances of the beginnings of two runs of bases are worked out line by
// line: a line is of one beginning of the one, and has as many numbers as the
// other has beginnings, the empty one too.

// firstLine tells the distances of no bases and of each beginning of count.
func firstLine(count int) []int {
	line := make([]int, count+1)
	for i := range line {
		line[i] = i
	}
	return line
}

// nextLine tells the distances with one base more than line has. The first of
// them, with which the line begins, is given: it tells what it costs to come so
// far with nothing of the other run.
func nextLine(line []int, first int, base byte, other string) []int {
	next := make([]int, len(line))
	next[0] = first
	for i := range len(other) {
		next[i+1] = min(line[i]+cost(base, other[i]), line[i+1]+1, next[i]+1)
	}
	return next
}

// cost tells the errors of two bases that stand against each other.
func cost(one byte, other byte) int {
	if agree(one, other) {
		return 0
	}
	return 1
}

// distances tells the distance of each beginning of the bases that are sought
// and each of those that they are held against.
func distances(sought string, against string) [][]int {
	lines := [][]int{firstLine(len(against))}
	for i := range len(sought) {
		lines = append(lines, nextLine(lines[i], i+1, sought[i], against))
	}
	return lines
}

// endsWithin tells where in a stretch the bases end with k errors or fewer.
// They may begin anywhere, so that coming to any of its bases costs nothing.
func endsWithin(stretch string, sought string, k int) []find {
	var found []find
	line := firstLine(len(sought))
	for i := range len(stretch) {
		line = nextLine(line, 0, stretch[i], sought)
		if errors := line[len(sought)]; errors <= k {
			found = append(found, find{end: i + 1, errors: errors})
		}
	}
	return found
}

// startOf tells the greatest start from which the bases come to this end with
// so many errors, the fewest that there are. It goes from the end to the
// beginning, where the greatest start is met first.
func startOf(ref string, sought string, at find) int {
	turned := backwards(sought)
	line := firstLine(len(turned))
	start := at.end
	for line[len(turned)] > at.errors {
		start--
		line = nextLine(line, at.end-start, ref[start], turned)
	}
	return start
}
