package crew_test

import (
	"math"
	"reflect"
	"runtime"
	"strings"
	"sync"
	"sync/atomic"
	"testing"
	"time"

	"bramble/api"
	"bramble/crew"
)

func double(x int) int { return 2 * x }

// oddFails: an error n for an odd job n above 1, with a result that isn't to be seen.
func oddFails(n int) (int, api.Errno) {
	if n > 1 && n%2 == 1 {
		return 77, api.Errno(n)
	}
	return 2 * n, api.OK
}

func TestExamples(t *testing.T) {
	jobs := []int{1, 2, 3, 4}
	wantList(t, "All with 3 hands", crew.All(jobs, 3, double), []int{2, 4, 6, 8})
	wantTry(t, jobs, 3, oddFails, nil, 2, 3)
	wantTry(t, nil, 3, oddFails, nil, 0, api.OK)
	wantList(t, "All of no jobs", crew.All(nil, 3, double), nil)
}

func TestNoJobs(t *testing.T) {
	spare := []int{1, 2, 3}
	for _, jobs := range [][]int{nil, {}, spare[:0], spare[3:]} {
		for _, hands := range handCounts(0) {
			never := func(x int) int {
				t.Errorf("do was called with %d, and there is no job", x)
				return x
			}
			if got := crew.All(jobs, hands, never); len(got) != 0 {
				t.Errorf("All of no jobs with %d hands: %v", hands, got)
			}
			neverFails := func(x int) (int, api.Errno) { return never(x), api.ErrRange }
			wantTry(t, jobs, hands, neverFails, nil, 0, api.OK)
		}
	}
}

func TestOneJob(t *testing.T) {
	for _, hands := range handCounts(1) {
		calls := 0
		got := crew.All([]int{21}, hands, func(x int) int {
			calls++
			return 2 * x
		})
		wantList(t, "All of one job", got, []int{42})
		if calls != 1 {
			t.Errorf("%d hands: one job was done %d times", hands, calls)
		}
	}
}

func TestEachResultAtItsPlace(t *testing.T) {
	for _, n := range []int{2, 3, 4, 5, 63, 64, 65, 128, 1000} {
		for _, hands := range handCounts(n) {
			c := newTally(n)
			got := crew.All(places(n), hands, func(place int) int {
				c.begin(place)
				defer c.end()
				return place*place + 1
			})
			c.wantEachOnce(t, hands)
			if len(got) != n {
				t.Fatalf("%d results of %d jobs with %d hands", len(got), n, hands)
			}
			for place, result := range got {
				if result != place*place+1 {
					t.Errorf("%d jobs, %d hands: %d at the place %d", n, hands, result, place)
				}
			}
		}
	}
}

func TestMoreJobsThanHandsByFar(t *testing.T) {
	const n = 30000
	for _, hands := range []int{1, 2, 7, 64} {
		c := newTally(n)
		sum := 0
		for _, result := range crew.All(places(n), hands, func(place int) int {
			c.begin(place)
			defer c.end()
			return place
		}) {
			sum += result
		}
		c.wantEachOnce(t, hands)
		if sum != n*(n-1)/2 {
			t.Errorf("%d hands: the results' sum is %d", hands, sum)
		}
	}
}

// The list that do writes has no lock, so that two calls at one time would be a race, too.
func TestOneHandGoesInOrder(t *testing.T) {
	jobs := []string{"d", "b", "", "a", "b", "c"}
	for _, hands := range []int{math.MinInt, -64, -1, 0, 1} {
		var done []string
		wantList(t, "All", crew.All(jobs, hands, func(job string) string {
			done = append(done, job)
			return job + job
		}), []string{"dd", "bb", "", "aa", "bb", "cc"})
		wantList(t, "what was done, in order", done, jobs)
	}
}

// Also the calls of a Try; those behind the error are free.
func TestOneHandTriesInOrder(t *testing.T) {
	jobs := places(9)
	for _, hands := range []int{math.MinInt, -1, 0, 1} {
		for bad := range jobs {
			var done []int
			crew.Try(jobs, hands, func(job int) (int, api.Errno) {
				done = append(done, job)
				if job == bad {
					return 0, api.ErrForm
				}
				return job, api.OK
			})
			if len(done) <= bad {
				t.Fatalf("%d hands: %v were done ahead of an error of %d", hands, done, bad)
			}
			wantList(t, "what was done, in order", done, jobs[:len(done)])
		}
	}
}

// Alike jobs are jobs of their own.
func TestAlikeJobs(t *testing.T) {
	for _, hands := range handCounts(100) {
		var calls atomic.Int64
		got := crew.All(make([]int, 100), hands, func(int) int {
			calls.Add(1)
			return 5
		})
		if calls.Load() != 100 || len(got) != 100 {
			t.Errorf("%d hands: %d calls and %d results of 100 alike jobs", hands, calls.Load(), len(got))
		}
		for place, result := range got {
			if result != 5 {
				t.Errorf("%d hands: %d at the place %d", hands, result, place)
			}
		}
	}
}

// wantSame: All and Try answer what do does, with all numbers of hands.
func wantSame[T, R any](t *testing.T, do func(T) R, jobs ...T) {
	t.Helper()
	var want []R
	for _, job := range jobs {
		want = append(want, do(job))
	}
	for _, hands := range handCounts(len(jobs)) {
		if got := crew.All(jobs, hands, do); !reflect.DeepEqual(got, want) {
			t.Errorf("All of %v with %d hands: %v, not %v", jobs, hands, got, want)
		}
		got, place, errno := crew.Try(jobs, hands, func(job T) (R, api.Errno) { return do(job), api.OK })
		if !reflect.DeepEqual(got, want) || place != 0 || errno != api.OK {
			t.Errorf("Try of %v with %d hands: %v, %d, %d, not %v", jobs, hands, got, place, errno, want)
		}
	}
}

type pair struct {
	name string
	list []int
}

func TestSeveralTypes(t *testing.T) {
	one, two := 1, 2
	wantSame(t, func(s string) int { return len(s) }, "", "a", "bb", "a\x00b")
	wantSame(t, func(n int) string { return strings.Repeat("x", n) }, 3, 0, 1)
	wantSame(t, func(x float32) bool { return x > 0 }, 1, -1, 0, float32(math.Inf(1)))
	wantSame(t, func(b bool) uint8 { return map[bool]uint8{true: 255}[b] }, true, false)
	wantSame(t, func(p *int) *int { return p }, &one, nil, &two, &one)
	wantSame(t, func(p *int) bool { return p == nil }, nil, nil)
	wantSame(t, func(p pair) []int { return p.list }, pair{"a", []int{1}}, pair{}, pair{"b", []int{}})
	wantSame(t, func(l []int) pair { return pair{"of", l} }, []int{1, 2}, nil, []int{})
	wantSame(t, func(x struct{}) struct{} { return x }, struct{}{}, struct{}{}, struct{}{})
	wantSame(t, func(a [2]int) [1]int { return [1]int{a[0] + a[1]} }, [2]int{1, 2}, [2]int{})
	wantSame(t, func(x any) any { return []any{x} }, 1, "a", nil, any(2.5))
	wantSame(t, func(f func() int) int { return f() }, func() int { return 4 }, func() int { return 5 })
	wantSame(t, func(m map[int]int) int { return m[1] }, map[int]int{1: 6}, nil)
	wantSame(t, func(e api.Errno) error { return nil }, api.OK, api.ErrRange)
	wantSame(t, func(e api.Edge) api.Arc { return api.Arc{U: e.U, V: e.V} }, api.Edge{E: 1, U: 2, V: 3}, api.Edge{})
	wantSame(t, func(c chan int) int { return cap(c) }, make(chan int, 3), nil)
}

// Results that are an error's number, or a zero value, are results like others.
func TestResultsThatLookLikeErrors(t *testing.T) {
	wantSame(t, func(n int) api.Errno { return api.Errno(n) }, 0, 1, 0, 130, -1)
	wantSame(t, func(n int) int { return 0 }, 1, 2, 3)
}

// A job may be a crew's work itself.
func TestCrewsInCrews(t *testing.T) {
	for _, hands := range []int{1, 2, 5, 64} {
		got := crew.All([]int{3, 0, 5, 2, 4}, hands, func(n int) int {
			sum := 0
			for _, x := range crew.All(places(n), hands, double) {
				sum += x
			}
			return sum
		})
		wantList(t, "All of crews", got, []int{6, 0, 20, 2, 12})
	}
}

// Several calls at one time don't see each other.
func TestCrewsSideBySide(t *testing.T) {
	var others sync.WaitGroup
	for caller := range 8 {
		others.Go(func() {
			bad := 4 * (caller + 1)
			for hands := range 70 {
				for place, result := range crew.All(places(40), hands, func(x int) int { return x * caller }) {
					if result != place*caller {
						t.Errorf("caller %d, %d hands: %d at the place %d", caller, hands, result, place)
					}
				}
				_, place, errno := crew.Try(places(40), hands, func(x int) (int, api.Errno) { return x, api.Errno(x / bad) })
				if place != bad || errno != 1 {
					t.Errorf("caller %d, %d hands: Try told %d, %d", caller, hands, place, errno)
				}
			}
		})
	}
	others.Wait()
}

func TestNoGoroutineIsLeft(t *testing.T) {
	ahead := runtime.NumGoroutine()
	for _, n := range []int{0, 1, 5, 64, 200} {
		for _, hands := range handCounts(n) {
			crew.All(places(n), hands, double)
			wantGoroutines(t, ahead, n, hands)
			crew.Try(places(n), hands, oddFails)
			wantGoroutines(t, ahead, n, hands)
		}
	}
}

// wantGoroutines: as many as ahead of the call. The runtime still counts one that has told that it is done for a moment, so it is given time to go.
func wantGoroutines(t *testing.T, ahead, jobs, hands int) {
	t.Helper()
	for range 5000 {
		if runtime.NumGoroutine() <= ahead {
			return
		}
		time.Sleep(time.Millisecond)
	}
	t.Fatalf("%d jobs, %d hands: %d goroutines behind the call, %d ahead of it", jobs, hands, runtime.NumGoroutine(), ahead)
}
