package crew_test

import (
	"math"
	"slices"
	"sync"
	"testing"

	"bramble/api"
)

// handCounts: numbers of hands around all bounds, for so many jobs.
func handCounts(jobs int) []int {
	return []int{math.MinInt, -64, -1, 0, 1, 2, 3, jobs - 1, jobs, jobs + 1, 63, 64, 65, 1000, math.MaxInt}
}

// allowed: how many calls may be under way at one time, by the chapter's words.
func allowed(hands int) int {
	if hands < 1 {
		return 1
	}
	if hands > 64 {
		return 64
	}
	return hands
}

// places: so many jobs, each of them its own place.
func places(n int) []int {
	jobs := make([]int, n)
	for i := range jobs {
		jobs[i] = i
	}
	return jobs
}

// tally: which calls of do were begun and ended, of jobs that are their own places.
type tally struct {
	mu    sync.Mutex
	calls []int
	now   int
	most  int
	ended int
	// The least number of calls that had ended when a job was begun, less its place:
	// jobs begun out of their order, or too many of them, make it less than -hands + 1.
	lag int
}

func newTally(n int) *tally { return &tally{calls: make([]int, n)} }

func (c *tally) begin(place int) {
	c.mu.Lock()
	defer c.mu.Unlock()
	c.calls[place]++
	c.now++
	c.most = max(c.most, c.now)
	c.lag = min(c.lag, c.ended-place)
}

func (c *tally) end() {
	c.mu.Lock()
	defer c.mu.Unlock()
	c.now--
	c.ended++
}

// wantOver: no call is under way any more, and there were never too many, nor out of order.
func (c *tally) wantOver(t *testing.T, hands int) {
	t.Helper()
	c.mu.Lock()
	defer c.mu.Unlock()
	if c.now != 0 {
		t.Errorf("%d hands: %d calls under way behind the answer", hands, c.now)
	}
	if c.most > allowed(hands) {
		t.Errorf("%d hands: %d calls at one time", hands, c.most)
	}
	if c.lag < 1-allowed(hands) {
		t.Errorf("%d hands: a job was begun when %d ahead of it hadn't ended", hands, -c.lag)
	}
}

// wantEachOnce: each job was done just once.
func (c *tally) wantEachOnce(t *testing.T, hands int) {
	t.Helper()
	c.wantOver(t, hands)
	for place, n := range c.calls {
		if n != 1 {
			t.Errorf("%d hands: job %d was done %d times", hands, place, n)
		}
	}
}

// wantOnceTill: each job up to this place was done just once, those behind it at most once.
func (c *tally) wantOnceTill(t *testing.T, hands, last int) {
	t.Helper()
	c.wantOver(t, hands)
	for place, n := range c.calls {
		if n > 1 || n < 1 && place <= last {
			t.Errorf("%d hands: job %d was done %d times, and %d is told", hands, place, n, last)
		}
	}
}

func wantList[R comparable](t *testing.T, what string, got, want []R) {
	t.Helper()
	if !slices.Equal(got, want) {
		t.Errorf("%s: %v, not %v", what, got, want)
	}
}

// inTurn: what Try answers, by the chapter's words, one job behind the other.
func inTurn[T, R any](jobs []T, do func(T) (R, api.Errno)) ([]R, int, api.Errno) {
	var results []R
	for place, job := range jobs {
		result, errno := do(job)
		if errno != api.OK {
			return nil, place, errno
		}
		results = append(results, result)
	}
	return results, 0, api.OK
}
