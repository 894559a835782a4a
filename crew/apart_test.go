package crew_test

import (
	"slices"
	"sync"
	"testing"

	"bramble/api"
	"bramble/crew"
)

// Each of these calls answers the jobs themselves, so that memory they shared would be seen.

func same(x int) int { return x }

func sameOK(x int) (int, api.Errno) { return x, api.OK }

// caller: All or Try, as one kind of call.
type caller struct {
	name string
	call func(jobs []int, hands int) []int
}

func callers() []caller {
	return []caller{
		{"All", func(jobs []int, hands int) []int { return crew.All(jobs, hands, same) }},
		{"Try", func(jobs []int, hands int) []int {
			list, _, _ := crew.Try(jobs, hands, sameOK)
			return list
		}},
	}
}

// withRoom: the jobs, of a list that goes on behind them.
func withRoom() (jobs, whole []int) {
	whole = []int{4, 8, 15, 16, 23, 42}
	return whole[1:4], whole
}

func TestJobsStayAsTheyAre(t *testing.T) {
	for _, c := range callers() {
		for _, hands := range handCounts(3) {
			jobs, whole := withRoom()
			wantList(t, c.name, c.call(jobs, hands), []int{8, 15, 16})
			wantList(t, "the jobs behind "+c.name, whole, []int{4, 8, 15, 16, 23, 42})
		}
	}
	for _, hands := range handCounts(3) {
		jobs, whole := withRoom()
		wantTry(t, jobs, hands, oddFails, nil, 1, 15)
		wantList(t, "the jobs behind an error", whole, []int{4, 8, 15, 16, 23, 42})
	}
}

// overwrite fills a list and its spare room.
func overwrite(list []int) {
	list = list[:cap(list)]
	for i := range list {
		list[i] = -1
	}
}

func TestAnswersAreNewMemory(t *testing.T) {
	for _, c := range callers() {
		for _, hands := range handCounts(3) {
			jobs, whole := withRoom()
			first, second := c.call(jobs, hands), c.call(jobs, hands)
			overwrite(first)
			wantList(t, "the jobs", whole, []int{4, 8, 15, 16, 23, 42})
			wantList(t, "the other answer", second, []int{8, 15, 16})
			overwrite(second)
			wantList(t, "the jobs", whole, []int{4, 8, 15, 16, 23, 42})
			wantList(t, "an answer behind both", c.call(jobs, hands), []int{8, 15, 16})
		}
	}
}

func TestAnswersStayWhenJobsChange(t *testing.T) {
	for _, c := range callers() {
		for _, hands := range handCounts(3) {
			jobs, whole := withRoom()
			got := c.call(jobs, hands)
			overwrite(whole)
			wantList(t, c.name, got, []int{8, 15, 16})
			wantList(t, c.name+" of other jobs", c.call(jobs, hands), []int{-1, -1, -1})
		}
	}
}

// Also of no jobs: what is appended to the answer isn't seen in the jobs' spare room.
func TestAnswersOfNoJobs(t *testing.T) {
	for _, c := range callers() {
		_, whole := withRoom()
		first := append(c.call(whole[:0], 2), 99)
		second := append(c.call(whole[:0], 2), 100)
		overwrite(first)
		wantList(t, "the jobs' spare room", whole, []int{4, 8, 15, 16, 23, 42})
		wantList(t, "the other answer", second, []int{100})
	}
}

// A list that is told beside an error shares nothing with the jobs either.
func TestListsBesideAnError(t *testing.T) {
	jobs, whole := withRoom()
	list, _, _ := crew.Try(jobs, 2, oddFails)
	overwrite(append(list, 99))
	wantList(t, "the jobs", whole, []int{4, 8, 15, 16, 23, 42})
}

// A do that writes into the jobs' list is still called with what was handed in.
func TestJobsThatDoChanges(t *testing.T) {
	for _, hands := range handCounts(200) {
		jobs := places(200)
		var mu sync.Mutex
		got := crew.All(jobs, hands, func(job int) int {
			mu.Lock()
			defer mu.Unlock()
			overwrite(jobs)
			return job
		})
		wantList(t, "All", got, places(200))
		if slices.Max(jobs) != -1 {
			t.Errorf("%d hands: what do wrote is gone: %v", hands, jobs)
		}
	}
}

// What jobs and results point to is do's alone: it comes to do, and back, as it is.
func TestPointersGoThrough(t *testing.T) {
	jobs := []*int{new(int), new(int), nil, new(int)}
	for _, hands := range handCounts(len(jobs)) {
		got := crew.All(jobs, hands, func(p *int) *int {
			if p != nil {
				*p++
			}
			return p
		})
		wantList(t, "All of pointers", got, jobs)
	}
	for _, place := range []int{0, 1, 3} {
		if *jobs[place] != len(handCounts(len(jobs))) {
			t.Errorf("job %d was done %d times", place, *jobs[place])
		}
	}
}
