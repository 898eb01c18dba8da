package spotter

import "testing"

// The document's forms hold for all letters, those too that no hit has: a hit
// begins with no D, and has none behind a base that does not agree.
func TestDifferencesOfAllForms(t *testing.T) {
	for _, c := range []struct{ letters, sought, against, want string }{
		{"MMMMDDMM", "TTTCGG", "TTTACGGG", "3A0^CG2"},
		{"DM", "A", "CA", "0^C1"},
		{"DDM", "A", "CGA", "0^CG1"},
		{"MM", "AC", "GC", "0G1"},
		{"MM", "NN", "NN", "0N0N0"},
		{"DMD", "A", "CGT", "0^C0G0^T0"},
		{"IDI", "AA", "C", "0^C0"},
		{"MIM", "ACG", "AG", "2"},
		{"MIM", "ACG", "TT", "0T0T0"},
		{"DMMMMMMMMMMMD", "AAAAAAAAAAA", "CAAAAAAAAAAAC", "0^C11^C0"},
		{"II", "AC", "", "0"},
		{"", "", "", "0"},
	} {
		if got := differences(c.letters, c.sought, c.against); got != c.want {
			t.Errorf("P6: the differences of %q, %q, %q are %q, want %q", c.letters, c.sought, c.against, got, c.want)
		}
	}
}

func TestLettersInRuns(t *testing.T) {
	for letters, want := range map[string]string{
		"": "", "M": "1M", "MMMIMM": "3M1I2M", "IDIDD": "1I1D1I2D", "MMMMMMMMMMMM": "12M",
	} {
		if got := inRuns(letters); got != want {
			t.Errorf("P6: the runs of %q are %q, want %q", letters, got, want)
		}
	}
}

func TestLaid(t *testing.T) {
	for _, c := range []struct{ sought, against, want string }{
		{"GGTA", "GTA", "IMMM"},
		{"TACC", "TAC", "MMIM"},
		{"TACC", "TACG", "MMMM"},
		{"A", "CA", "DM"},
		{"AA", "", "II"},
		{"", "AA", "DD"},
		{"", "", ""},
		{"NA", "NA", "MM"},
	} {
		if got := laid(c.sought, c.against); got != c.want {
			t.Errorf("P6: %q is laid against %q as %q, want %q", c.sought, c.against, got, c.want)
		}
	}
}
