package crew_test

import (
	"math"
	"testing"

	"bramble/api"
	"bramble/crew"
)

func wantTry[T any, R comparable](t *testing.T, jobs []T, hands int, do func(T) (R, api.Errno), list []R, at int, e api.Errno) {
	t.Helper()
	got, place, errno := crew.Try(jobs, hands, do)
	wantList(t, "Try's results", got, list)
	if place != at || errno != e {
		t.Errorf("Try of %d jobs with %d hands: %d, %d, not %d, %d", len(jobs), hands, place, errno, at, e)
	}
}

// wantTried: Try answers by the chapter's words with all numbers of hands, and does the jobs as often as they say.
// The jobs are places, and errs tells the error of each.
func wantTried(t *testing.T, errs []api.Errno) {
	t.Helper()
	answer := func(place int) (int, api.Errno) { return 3*place + 1, errs[place] }
	jobs := places(len(errs))
	list, at, e := inTurn(jobs, answer)
	last := at
	if e == api.OK {
		last = len(errs)
	}
	for _, hands := range handCounts(len(errs)) {
		c := newTally(len(errs))
		wantTry(t, jobs, hands, func(place int) (int, api.Errno) {
			c.begin(place)
			defer c.end()
			return answer(place)
		}, list, at, e)
		c.wantOnceTill(t, hands, last)
	}
}

// errorsAt: of n jobs those at these places fail, each with an error of its own.
func errorsAt(n int, at ...int) []api.Errno {
	errs := make([]api.Errno, n)
	for _, place := range at {
		errs[place] = api.Errno(1000 + place)
	}
	return errs
}

func TestNoJobFails(t *testing.T) {
	for _, n := range []int{1, 2, 3, 64, 65, 300} {
		wantTried(t, errorsAt(n))
	}
}

func TestOneJobFails(t *testing.T) {
	for _, n := range []int{1, 2, 3, 10, 64, 65} {
		for at := range n {
			wantTried(t, errorsAt(n, at))
		}
	}
	for _, at := range []int{0, 1, 499, 998, 999} {
		wantTried(t, errorsAt(1000, at))
	}
}

func TestSeveralJobsFail(t *testing.T) {
	for _, n := range []int{2, 3, 20, 64, 65, 200} {
		wantTried(t, errorsAt(n, places(n)...))
		wantTried(t, errorsAt(n, 0, n-1))
		wantTried(t, errorsAt(n, places(n)[n/2:]...))
		wantTried(t, errorsAt(n, n/2, n-1))
	}
	wantTried(t, errorsAt(200, 65, 66, 130, 199))
}

// Each way in which some of seven jobs may fail.
func TestEveryWayToFail(t *testing.T) {
	for ways := range 1 << 7 {
		errs := make([]api.Errno, 7)
		for place := range errs {
			if ways>>place&1 == 1 {
				errs[place] = api.Errno(10 + place)
			}
		}
		wantTried(t, errs)
	}
}

// Each number but OK's is an error, also one that api doesn't name.
func TestEveryNumberButOKIsAnError(t *testing.T) {
	for _, e := range []api.Errno{1, api.ErrTwice, api.ErrNoPath, api.ErrBase, 9999, -1, math.MaxInt, math.MinInt} {
		wantTried(t, []api.Errno{0, e, 0})
		wantTried(t, []api.Errno{0, 0, e})
		wantTried(t, []api.Errno{0, e, -e, 1})
	}
}

// The first of the list is told, not the least or the greatest error.
func TestFirstErrorOfTheList(t *testing.T) {
	wantTried(t, []api.Errno{0, 5, 1, 9})
	wantTried(t, []api.Errno{0, 5, 9, 1})
	wantTried(t, []api.Errno{9, 5, 1})
	wantTried(t, []api.Errno{1, 5, 9})
	wantTried(t, []api.Errno{-1, 5, 0, 9})
	wantTried(t, []api.Errno{0, 0, 7, 7, 7})
}

// Of alike jobs that fail the first one's place is told.
func TestAlikeJobsFail(t *testing.T) {
	jobs := []int{2, 4, 3, 3, 2, 5, 3}
	for _, hands := range handCounts(len(jobs)) {
		wantTry(t, jobs, hands, oddFails, nil, 2, 3)
		wantTry(t, jobs[3:], hands, oddFails, nil, 0, 3)
		wantTry(t, jobs[4:], hands, oddFails, nil, 1, 5)
	}
}

// No result is told beside an error, also of lists and texts.
func TestNoResultsBesideAnError(t *testing.T) {
	for _, hands := range handCounts(4) {
		texts, place, errno := crew.Try([]string{"a", "b", "", "c"}, hands, func(s string) (string, api.Errno) {
			if s == "" {
				return "a result", api.ErrForm
			}
			return s, api.OK
		})
		if len(texts) != 0 || place != 2 || errno != api.ErrForm {
			t.Errorf("%d hands: %q, %d, %d", hands, texts, place, errno)
		}
	}
}
