package spotter

import (
	"errors"
	"testing"
)

func TestAttemptTellsTheFault(t *testing.T) {
	want := fault{code: ErrReads, place: 7}
	if got := attempt(func() { panic(want) }); got != want {
		t.Errorf("Ways: attempt tells %v, want %v", got, want)
	}
	if got := attempt(func() {}); got != (fault{}) {
		t.Errorf("Ways: attempt tells %v where nothing was given up", got)
	}
}

func thrownThrough(value any) (thrown any) {
	defer func() { thrown = recover() }()
	attempt(func() { panic(value) })
	return nil
}

func TestAttemptCatchesNoOtherPanic(t *testing.T) {
	for _, value := range []any{"a text", 7, ErrRef, errors.New("an error"), &fault{}} {
		if thrown := thrownThrough(value); thrown != value {
			t.Errorf("Ways: of a panic with %v there came through: %v", value, thrown)
		}
	}
}

func TestReadersGiveUpByAPanic(t *testing.T) {
	for _, c := range []struct {
		reading func()
		want    fault
	}{
		{func() { readReference(">r\nX\n") }, fault{ErrRef, 3}},
		{func() { readReads("@a\nAC\n+\nI\n") }, fault{ErrReads, 9}},
		{func() { readBases("ACX", 1, 3) }, fault{ErrBase, 2}},
		{func() { readBases("ACGT", 1, 3) }, fault{ErrBase, 0}},
		{func() { readBases("", 1, 3) }, fault{ErrBase, 0}},
	} {
		func() {
			defer func() {
				if thrown := recover(); thrown != c.want {
					t.Errorf("Ways: a reader gave up with %v, want %v", thrown, c.want)
				}
			}()
			c.reading()
		}()
	}
}
