package spotter

import (
	"maps"
	"runtime"
	"slices"
	"strings"
	"sync"
	"testing"
	"time"
)

// myGoroutine tells the number by which the runtime knows who calls.
func myGoroutine() string {
	stack := make([]byte, 64)
	return strings.Fields(string(stack[:runtime.Stack(stack, false)]))[1]
}

// whoWorks tells which goroutine was given which numbers, in their order.
func whoWorks(numbers []int, workers int) map[string][]int {
	given := map[string][]int{}
	var guard sync.Mutex
	dealOut(numbers, workers, func(number int) {
		// Were one not waited for, what it adds would be missed.
		time.Sleep(time.Millisecond)
		guard.Lock()
		defer guard.Unlock()
		given[myGoroutine()] = append(given[myGoroutine()], number)
	})
	guard.Lock()
	defer guard.Unlock()
	return given
}

func TestNumbersAreDealtOutByTurns(t *testing.T) {
	numbers := []int{3, 5, 8, 9, 20, 21, 22, 40, 7, 1, 2}
	for workers := 1; workers <= maxWorkers; workers++ {
		for count := range len(numbers) + 1 {
			var want [][]int
			for first := range min(workers, count) {
				var turns []int
				for turn := first; turn < count; turn += workers {
					turns = append(turns, numbers[turn])
				}
				want = append(want, turns)
			}
			got := slices.Collect(maps.Values(whoWorks(numbers[:count], workers)))
			byFirst := func(one, other []int) int {
				return slices.Index(numbers, one[0]) - slices.Index(numbers, other[0])
			}
			slices.SortFunc(got, byFirst)
			if !slices.EqualFunc(got, want, slices.Equal) {
				t.Errorf("Ways: %d workers were given %v, want %v", workers, got, want)
			}
		}
	}
}

// TestWorkersWorkSideBySide would not end if one had to wait for another: none
// is done till all have begun.
func TestWorkersWorkSideBySide(t *testing.T) {
	for workers := 1; workers <= maxWorkers; workers++ {
		var begun sync.WaitGroup
		begun.Add(workers)
		dealOut(make([]int, workers), workers, func(int) {
			begun.Done()
			begun.Wait()
		})
	}
}

func TestFindsKeepTheLeast(t *testing.T) {
	found := &finds{least: map[int]int{}}
	var all sync.WaitGroup
	for errors := range 7 {
		all.Go(func() {
			for range 200 {
				found.add([]find{{end: 4, errors: errors}, {end: 5, errors: 6 - errors}, {end: 10 + errors, errors: errors}})
			}
		})
	}
	all.Wait()
	want := map[int]int{4: 0, 5: 0, 10: 0, 11: 1, 12: 2, 13: 3, 14: 4, 15: 5, 16: 6}
	if !maps.Equal(found.least, want) {
		t.Errorf("Ways: the workers found %v, want %v", found.least, want)
	}
	found.add(nil)
	found.add([]find{{end: 16, errors: 5}, {end: 11, errors: 3}})
	want[16] = 5
	if !maps.Equal(found.least, want) {
		t.Errorf("Ways: behind more finds there are %v, want %v", found.least, want)
	}
}

// TestRecordsAreOfTwoKinds asks for the kinds, and what each tells through the
// interface.
func TestRecordsAreOfTwoKinds(t *testing.T) {
	within := reference{name: "r", bases: "CCCGG"}
	by := settings{k: 0, q: 2, step: 3}
	one := read{name: "a", bases: "CC", marks: "12"}
	records := recordsOf(within, one, by, 2)
	wantFlags := []int{0, 256, 272}
	if len(records) != len(wantFlags) {
		t.Fatalf("Ways: there are %d records, want %d", len(records), len(wantFlags))
	}
	for i, each := range records {
		if _, ok := each.(place); !ok || each.flag(i == 0) != wantFlags[i] {
			t.Errorf("Ways: record %d is a %T with the flag %d", i, each, each.flag(i == 0))
		}
	}
	if got, want := records[2].told(), (read{name: "a", bases: "GG", marks: "21"}); got != want {
		t.Errorf("Ways: a place of the flip tells %v, want %v", got, want)
	}
	records = recordsOf(within, read{name: "b", bases: "TT", marks: "12"}, by, 2)
	if len(records) != 1 || records[0] != (none{read{name: "b", bases: "TT", marks: "12"}}) || records[0].flag(true) != 4 {
		t.Errorf("Ways: a read without places has the records %v", records)
	}
}
