package spotter

import "sync"

const maxWorkers = 8

// find is an end at which some bases stand in a reference, with how many errors.
type find struct {
	end    int
	errors int
}

// finds is what all workers share.
type finds struct {
	guard sync.Mutex
	least map[int]int // of each end the least number of errors
}

// add keeps the least of each end: in a stretch that begins too near to an end
// more errors are found than there must be.
func (f *finds) add(more []find) {
	f.guard.Lock()
	defer f.guard.Unlock()
	for _, one := range more {
		known, ok := f.least[one.end]
		if !ok || one.errors < known {
			f.least[one.end] = one.errors
		}
	}
}

// leastErrors tells all ends at which the bases stand in the reference with k
// errors or fewer, and of each the least number of errors.
func leastErrors(ref string, sought string, by settings, workers int) map[int]int {
	found := &finds{least: map[int]int{}}
	dealOut(lookedAt(ref, sought, by), workers, func(number int) {
		within := endsWithin(by.stretch(ref, len(sought), number), sought, by.k)
		for i := range within {
			within[i].end += number * by.step
		}
		found.add(within)
	})
	return found.least
}

// dealOut gives the numbers to the workers by turns, each over a channel of its
// own, and comes back when all workers have ended.
func dealOut(numbers []int, workers int, work func(int)) {
	var all sync.WaitGroup
	given := make([]chan int, workers)
	for i := range given {
		given[i] = make(chan int)
		all.Add(1)
		go workOff(given[i], work, &all)
	}
	for turn, number := range numbers {
		given[turn%workers] <- number
	}
	for _, one := range given {
		close(one)
	}
	all.Wait()
}

func workOff(numbers <-chan int, work func(int), all *sync.WaitGroup) {
	defer all.Done()
	for number := range numbers {
		work(number)
	}
}
