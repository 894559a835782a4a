package crew_test

import (
	"slices"
	"sync"
	"testing"
	"testing/synctest"
	"time"

	"bramble/api"
	"bramble/crew"
)

// These tests go by a clock that stands still while anybody can go on, so that what happens when
// doesn't hang on the machine. A crew that leaves a goroutine waiting, or waits for ever, fails there.

const tick = time.Millisecond

// plan: when each job begins, if each is begun in its order as soon as a hand is free; and when all have ended.
func plan(lengths []int, hands int) (begins []int, end int) {
	free := make([]int, allowed(hands))
	for _, length := range lengths {
		i := slices.Index(free, slices.Min(free))
		begins = append(begins, free[i])
		free[i] += length
	}
	return begins, slices.Max(free)
}

// wantPlan: All and Try begin jobs of these lengths when they should, and answer when all have ended.
func wantPlan(t *testing.T, lengths []int, hands int) {
	t.Helper()
	begins, end := plan(lengths, hands)
	c := newTally(len(lengths))
	start := time.Now()
	take := func(place int) int {
		began := int(time.Since(start) / tick)
		c.begin(place)
		defer c.end()
		time.Sleep(time.Duration(lengths[place]) * tick)
		return began
	}
	got := crew.All(places(len(lengths)), hands, take)
	wantTime(t, start, end)
	wantList(t, "when All began the jobs", got, begins)
	c.wantEachOnce(t, hands)

	c, start = newTally(len(lengths)), time.Now()
	got, _, errno := crew.Try(places(len(lengths)), hands, func(place int) (int, api.Errno) { return take(place), api.OK })
	wantTime(t, start, end)
	wantList(t, "when Try began the jobs", got, begins)
	c.wantEachOnce(t, hands)
	if errno != api.OK {
		t.Errorf("Try answered %d where no job fails", errno)
	}
}

func wantTime(t *testing.T, start time.Time, ticks int) {
	t.Helper()
	if took := time.Since(start); took != time.Duration(ticks)*tick {
		t.Errorf("the call took %v, not %d ticks", took, ticks)
	}
}

func TestBegunAsSoonAsAHandIsFree(t *testing.T) {
	synctest.Test(t, func(t *testing.T) {
		for hands := -1; hands <= 6; hands++ {
			for ways := range 3 * 3 * 3 * 3 * 3 {
				lengths := make([]int, 5)
				for i := range lengths {
					lengths[i] = []int{1, 3, 7}[ways%3]
					ways /= 3
				}
				wantPlan(t, lengths, hands)
			}
		}
	})
}

func TestLongListsByTheClock(t *testing.T) {
	synctest.Test(t, func(t *testing.T) {
		lengths := make([]int, 400)
		for i := range lengths {
			lengths[i] = 1 + i*i%17
		}
		for _, hands := range handCounts(len(lengths)) {
			wantPlan(t, lengths, hands)
		}
	})
}

// As many calls as are allowed are under way at one time, and no more.
func TestAsManyAtOnceAsAllowed(t *testing.T) {
	synctest.Test(t, func(t *testing.T) {
		for _, n := range []int{1, 2, 5, 63, 64, 65, 200} {
			for _, hands := range handCounts(n) {
				c := newTally(n)
				crew.All(places(n), hands, func(place int) int {
					c.begin(place)
					defer c.end()
					time.Sleep(tick)
					return 0
				})
				c.wantEachOnce(t, hands)
				if want := min(n, allowed(hands)); c.most != want {
					t.Errorf("%d jobs, %d hands: %d calls at one time, not %d", n, hands, c.most, want)
				}
			}
		}
	})
}

// Jobs that go on only when all of them are under way.
func TestJobsThatMeet(t *testing.T) {
	synctest.Test(t, func(t *testing.T) {
		for _, hands := range []int{1, 2, 3, 63, 64} {
			var meeting sync.WaitGroup
			meeting.Add(hands)
			got := crew.All(places(hands), hands, func(place int) int {
				meeting.Done()
				meeting.Wait()
				return place
			})
			wantList(t, "All of jobs that meet", got, places(hands))
		}
	})
}

// The first job goes on only when all that are behind it have ended: the other hands do them.
func TestFirstJobWaitsForTheLast(t *testing.T) {
	synctest.Test(t, func(t *testing.T) {
		for _, hands := range []int{2, 3, 64, 1000} {
			var others sync.WaitGroup
			others.Add(499)
			wait := func(place int) (int, api.Errno) {
				if place == 0 {
					others.Wait()
				} else {
					others.Done()
				}
				return place, api.OK
			}
			wantTry(t, places(500), hands, wait, places(500), 0, api.OK)
		}
	})
}

// failAfter: how long each job takes, and its error.
type failAfter struct {
	length int
	errno  api.Errno
}

// wantSlowTry: the first error of the list is told, whichever comes first, and all calls have ended by then.
func wantSlowTry(t *testing.T, rows []failAfter, hands int) {
	t.Helper()
	c := newTally(len(rows))
	list, at, e := inTurn(places(len(rows)), func(place int) (int, api.Errno) { return place, rows[place].errno })
	wantTry(t, places(len(rows)), hands, func(place int) (int, api.Errno) {
		c.begin(place)
		defer c.end()
		time.Sleep(time.Duration(rows[place].length) * tick)
		return place, rows[place].errno
	}, list, at, e)
	last := at
	if e == api.OK {
		last = len(rows)
	}
	c.wantOnceTill(t, hands, last)
}

func TestLaterErrorsThatComeFirst(t *testing.T) {
	synctest.Test(t, func(t *testing.T) {
		for _, hands := range handCounts(6) {
			wantSlowTry(t, []failAfter{{100000, 5}, {1, 6}, {1, 0}, {1, 7}, {1, 0}, {1, 8}}, hands)
			wantSlowTry(t, []failAfter{{1, 0}, {100000, 5}, {1, 0}, {1, 7}, {1, 0}, {1, 8}}, hands)
			wantSlowTry(t, []failAfter{{1, 0}, {100000, 0}, {1, 9}, {500000, 0}, {1, 0}, {1, 8}}, hands)
			wantSlowTry(t, []failAfter{{50000, 0}, {40000, 5}, {30000, 4}, {20000, 3}, {10000, 2}, {1, 1}}, hands)
			wantSlowTry(t, []failAfter{{60000, 9}, {50000, 5}, {40000, 4}, {30000, 3}, {20000, 2}, {1, 1}}, hands)
			wantSlowTry(t, []failAfter{{1, 0}, {2, 9}, {50000, 9}, {70000, 0}, {60000, 2}, {90000, 0}}, hands)
		}
	})
}

// Of a list of jobs that is longer than the hands, too: an error far ahead that comes long behind the others.
func TestSlowErrorFarAhead(t *testing.T) {
	synctest.Test(t, func(t *testing.T) {
		rows := make([]failAfter, 300)
		for place := range rows {
			rows[place] = failAfter{1, api.Errno(place % 2)}
		}
		rows[0] = failAfter{1, 0}
		rows[1] = failAfter{1000, 130}
		for _, hands := range handCounts(len(rows)) {
			wantSlowTry(t, rows, hands)
		}
	})
}

// Each way in which some of four jobs may fail, with their ends in each order, by each number of hands.
func TestEveryOrderOfErrors(t *testing.T) {
	synctest.Test(t, func(t *testing.T) {
		for ways := range 4 * 4 * 4 * 4 * 16 {
			rows := make([]failAfter, 4)
			for place := range rows {
				rows[place].length = []int{1, 10, 100, 1000}[ways>>(2*place)&3]
				if ways>>(8+place)&1 == 1 {
					rows[place].errno = api.Errno(20 + place)
				}
			}
			for hands := 1; hands <= 5; hands++ {
				wantSlowTry(t, rows, hands)
			}
		}
	})
}
