package parts_test

import (
	"cmp"
	"math"
	"slices"
	"testing"

	"bramble/parts"
)

func want(t *testing.T, what string, got, want bool) {
	t.Helper()
	if got != want {
		t.Errorf("%s: %v, not %v", what, got, want)
	}
}

func wantLen[K cmp.Ordered](t *testing.T, p *parts.Parts[K], n int) {
	t.Helper()
	if got := p.Len(); got != n {
		t.Errorf("Len: %d, not %d", got, n)
	}
}

func wantHead[K cmp.Ordered](t *testing.T, p *parts.Parts[K], k, head K) {
	t.Helper()
	if h, ok := p.Head(k); h != head || !ok {
		t.Errorf("Head(%v): %v, %v, not %v, true", k, h, ok, head)
	}
}

func wantList[K cmp.Ordered](t *testing.T, what string, got []K, want ...K) {
	t.Helper()
	if !slices.Equal(got, want) {
		t.Errorf("%s: %v, not %v", what, got, want)
	}
}

// wantOut: k isn't in, and no call finds it, alone or beside the other thing.
func wantOut[K cmp.Ordered](t *testing.T, p *parts.Parts[K], k, other K) {
	t.Helper()
	var zero K
	n, heads, others := p.Len(), p.Heads(), p.Members(other)
	if h, ok := p.Head(k); h != zero || ok {
		t.Errorf("Head(%v) of what isn't in: %v, %v", k, h, ok)
	}
	wantList(t, "Members of what isn't in", p.Members(k))
	want(t, "Same of one that isn't in, and itself", p.Same(k, k), false)
	want(t, "Same of one that isn't in, and another", p.Same(k, other), false)
	want(t, "Same of another and one that isn't in", p.Same(other, k), false)
	want(t, "Join of one that isn't in, and itself", p.Join(k, k), false)
	want(t, "Join of one that isn't in, and another", p.Join(k, other), false)
	want(t, "Join of another and one that isn't in", p.Join(other, k), false)
	want(t, "Burst of what isn't in", p.Burst(k), false)
	want(t, "Drop of what isn't in", p.Drop(k), false)
	wantLen(t, p, n)
	wantList(t, "Heads behind calls that are refused", p.Heads(), heads...)
	wantList(t, "Members behind calls that are refused", p.Members(other), others...)
}

// of: these things, each a part of its own.
func of[K cmp.Ordered](things ...K) *parts.Parts[K] {
	p := parts.New[K]()
	for _, k := range things {
		p.Add(k)
	}
	return p
}

// joined: these things, all in one part.
func joined[K cmp.Ordered](things ...K) *parts.Parts[K] {
	p := of(things...)
	for _, k := range things {
		p.Join(things[0], k)
	}
	return p
}

func TestExamples(t *testing.T) {
	p := parts.New[int]()
	for _, k := range []int{5, 3, 9, 7} {
		want(t, "Add", p.Add(k), true)
	}
	want(t, "Join(5, 9)", p.Join(5, 9), true)
	want(t, "Join(9, 5)", p.Join(9, 5), false)
	want(t, "Join(3, 4)", p.Join(3, 4), false)
	wantHead(t, p, 9, 5)
	want(t, "Join(7, 9)", p.Join(7, 9), true)
	wantList(t, "Members(5)", p.Members(5), 5, 7, 9)
	wantList(t, "Heads", p.Heads(), 3, 5)
	want(t, "Drop(5)", p.Drop(5), true)
	wantHead(t, p, 9, 7)
	want(t, "Burst(9)", p.Burst(9), true)
	wantList(t, "Heads", p.Heads(), 3, 7, 9)
	wantLen(t, p, 3)
}

func TestNothingIn(t *testing.T) {
	p := parts.New[int]()
	wantLen(t, p, 0)
	wantList(t, "Heads", p.Heads())
	for _, k := range []int{math.MinInt, -1, 0, 1, math.MaxInt} {
		wantOut(t, p, k, 0)
	}
	texts := parts.New[string]()
	wantLen(t, texts, 0)
	wantList(t, "Heads", texts.Heads())
	wantOut(t, texts, "", "a")
	wantOut(t, texts, "a", "")
}

func TestNothingInAnyMore(t *testing.T) {
	p := joined(1, 2, 3)
	for _, k := range []int{2, 1, 3} {
		p.Drop(k)
	}
	wantLen(t, p, 0)
	wantList(t, "Heads", p.Heads())
	for k := range 5 {
		wantOut(t, p, k, 2)
	}
}

// The zero of a type is a thing like others, and isn't in before it is added.
func TestZeroThings(t *testing.T) {
	numbers := of(-1, 1)
	wantOut(t, numbers, 0, 1)
	want(t, "Add(0)", numbers.Add(0), true)
	wantHead(t, numbers, 0, 0)
	want(t, "Join(1, 0)", numbers.Join(1, 0), true)
	wantHead(t, numbers, 1, 0)
	wantList(t, "Heads", numbers.Heads(), -1, 0)
	want(t, "Drop(0)", numbers.Drop(0), true)
	wantOut(t, numbers, 0, 1)
	texts := of("a")
	wantOut(t, texts, "", "a")
	want(t, `Add("")`, texts.Add(""), true)
	want(t, `Join("a", "")`, texts.Join("a", ""), true)
	wantHead(t, texts, "a", "")
	wantList(t, `Members("a")`, texts.Members("a"), "", "a")
}

func TestAddedTwice(t *testing.T) {
	p := joined(4, 2, 6)
	for _, k := range []int{2, 4, 6} {
		want(t, "Add of what is in", p.Add(k), false)
		wantList(t, "Members behind it", p.Members(k), 2, 4, 6)
	}
	wantLen(t, p, 3)
	wantList(t, "Heads", p.Heads(), 2)
}

func TestDroppedTwice(t *testing.T) {
	for _, k := range []int{2, 4, 6} {
		p := joined(4, 2, 6)
		left := slices.DeleteFunc([]int{2, 4, 6}, func(x int) bool { return x == k })
		want(t, "Drop", p.Drop(k), true)
		wantOut(t, p, k, left[0])
		want(t, "Drop of what is out", p.Drop(k), false)
		wantLen(t, p, 2)
		wantList(t, "Heads", p.Heads(), left[0])
		wantList(t, "Members", p.Members(left[1]), left...)
	}
}

func TestHeadDropped(t *testing.T) {
	p := joined(7, 3, 9, 5)
	p.Add(1)
	want(t, "Drop(3)", p.Drop(3), true)
	for _, k := range []int{5, 7, 9} {
		wantHead(t, p, k, 5)
		wantList(t, "Members", p.Members(k), 5, 7, 9)
	}
	wantList(t, "Heads", p.Heads(), 1, 5)
	p.Drop(5)
	p.Drop(7)
	wantHead(t, p, 9, 9)
	wantList(t, "Heads", p.Heads(), 1, 9)
	p.Drop(9)
	wantList(t, "Heads", p.Heads(), 1)
}

func TestAnotherThanTheHeadDropped(t *testing.T) {
	p := joined(7, 3, 9, 5)
	want(t, "Drop(7)", p.Drop(7), true)
	wantList(t, "Members", p.Members(3), 3, 5, 9)
	want(t, "Drop(9)", p.Drop(9), true)
	wantList(t, "Members", p.Members(5), 3, 5)
	wantHead(t, p, 5, 3)
	want(t, "Same(3, 5)", p.Same(3, 5), true)
	wantList(t, "Heads", p.Heads(), 3)
	wantLen(t, p, 2)
}

// What is added again stands alone, whatever part it stood in.
func TestDroppedAndAddedAgain(t *testing.T) {
	for _, k := range []int{1, 2, 3} {
		p := joined(1, 2, 3)
		others := slices.DeleteFunc([]int{1, 2, 3}, func(x int) bool { return x == k })
		p.Drop(k)
		want(t, "Add again", p.Add(k), true)
		wantList(t, "Members of it", p.Members(k), k)
		wantList(t, "Members of the others", p.Members(others[0]), others...)
		want(t, "Same", p.Same(k, others[0]), false)
		want(t, "Join again", p.Join(others[1], k), true)
		wantList(t, "Members of all", p.Members(k), 1, 2, 3)
		wantLen(t, p, 3)
	}
}

func TestPartOfOne(t *testing.T) {
	p := of(1, 2)
	want(t, "Join with itself", p.Join(1, 1), false)
	want(t, "Same as itself", p.Same(1, 1), true)
	want(t, "Burst", p.Burst(1), true)
	want(t, "Burst again", p.Burst(1), true)
	wantHead(t, p, 1, 1)
	wantList(t, "Members", p.Members(1), 1)
	wantList(t, "Heads", p.Heads(), 1, 2)
	want(t, "Drop", p.Drop(1), true)
	wantOut(t, p, 1, 2)
	wantList(t, "Heads", p.Heads(), 2)
	wantLen(t, p, 1)
}

func TestBurstByEachOfItsThings(t *testing.T) {
	for _, k := range []int{1, 2, 3} {
		p := joined(3, 1, 2)
		p.Add(0)
		p.Add(4)
		p.Join(0, 4)
		want(t, "Burst", p.Burst(k), true)
		wantList(t, "Heads", p.Heads(), 0, 1, 2, 3)
		for _, x := range []int{1, 2, 3} {
			wantList(t, "Members", p.Members(x), x)
			want(t, "Same", p.Same(x, x%3+1), false)
		}
		wantList(t, "Members of another part", p.Members(4), 0, 4)
		wantLen(t, p, 5)
	}
}

// Single things of a part that burst go different ways.
func TestDoneToOneBehindABurst(t *testing.T) {
	p := joined(1, 2, 3, 4)
	p.Burst(2)
	p.Drop(1)
	p.Join(4, 2)
	wantHead(t, p, 4, 2)
	wantHead(t, p, 3, 3)
	wantList(t, "Heads", p.Heads(), 2, 3)
	p.Burst(4)
	wantList(t, "Heads", p.Heads(), 2, 3, 4)
}

func TestSameAndJoinOfTwoParts(t *testing.T) {
	p := of(1, 2, 3, 4)
	want(t, "Same(1, 3)", p.Same(1, 3), false)
	p.Join(1, 2)
	p.Join(3, 4)
	for _, a := range []int{1, 2} {
		for _, b := range []int{3, 4} {
			want(t, "Same across", p.Same(a, b), false)
			want(t, "Same across", p.Same(b, a), false)
		}
	}
	want(t, "Join(2, 3)", p.Join(2, 3), true)
	for a := 1; a <= 4; a++ {
		for b := 1; b <= 4; b++ {
			want(t, "Same within", p.Same(a, b), true)
			want(t, "Join within", p.Join(a, b), false)
		}
	}
}

// Both zeros of a float are one thing, as == and < say; it is told as it was added.
func TestTwoZeros(t *testing.T) {
	minus := math.Copysign(0, -1)
	for _, k := range []float64{0, minus} {
		p := of(k, 1, math.SmallestNonzeroFloat64)
		want(t, "Add of the other zero", p.Add(-k), false)
		want(t, "Same as the other zero", p.Same(k, -k), true)
		want(t, "Join with the other zero", p.Join(k, -k), false)
		want(t, "Join(1, zero)", p.Join(1, -k), true)
		h, ok := p.Head(1)
		want(t, "Head(1)", ok, true)
		for _, told := range []float64{h, p.Heads()[0], p.Members(-k)[0]} {
			want(t, "the sign that is told", math.Signbit(told), math.Signbit(k))
		}
		want(t, "Burst of the other zero", p.Burst(-k), true)
		wantList(t, "Heads", p.Heads(), 0, math.SmallestNonzeroFloat64, 1)
		want(t, "Drop of the other zero", p.Drop(-k), true)
		wantOut(t, p, k, 1)
		wantLen(t, p, 2)
	}
}

// Nothing is promised of a NaN but that calls end and don't panic, and other things stay as they are.
func TestNaN(t *testing.T) {
	nan := math.NaN()
	p := joined(1.5, 2.5)
	for range 3 {
		p.Add(nan)
		p.Join(nan, nan)
		p.Join(nan, 1.5)
		p.Join(1.5, nan)
		p.Head(nan)
		p.Same(nan, nan)
		p.Members(nan)
		p.Heads()
		p.Burst(nan)
		p.Drop(nan)
	}
	wantList(t, "Members", p.Members(2.5), 1.5, 2.5)
	wantHead(t, p, 2.5, 1.5)
}

// Many things, joined in orders that move much, then dropped from both ends.
func TestManyThings(t *testing.T) {
	const n = 1 << 14
	for _, order := range joinOrders(n) {
		p := parts.New[int]()
		for k := range n {
			p.Add(k)
		}
		for _, j := range order {
			if !p.Join(j[0], j[1]) {
				t.Fatalf("Join(%d, %d): false", j[0], j[1])
			}
		}
		wantList(t, "Heads", p.Heads(), 0)
		wantLen(t, p, n)
		for k := range n / 2 {
			last := n - 1 - k
			if h, ok := p.Head(last); h != k || !ok {
				t.Fatalf("Head(%d): %d, %v, not %d", last, h, ok, k)
			}
			if !p.Drop(k) || !p.Drop(last) {
				t.Fatalf("Drop of %d and %d: false", k, last)
			}
		}
		wantLen(t, p, 0)
		wantList(t, "Heads", p.Heads())
	}
}

// joinOrders: lists of joins that make one part of the n numbers from 0 on, n a power of two.
func joinOrders(n int) [][][2]int {
	var up, down, around, doubling [][2]int
	for k := 1; k < n; k++ {
		up = append(up, [2]int{k - 1, k})
		down = append(down, [2]int{n - k, n - k - 1})
		around = append(around, [2]int{n / 2, (n/2 + k*5) % n})
	}
	for width := 1; width < n; width *= 2 {
		for k := 0; k < n; k += 2 * width {
			doubling = append(doubling, [2]int{k, k + width})
		}
	}
	return [][][2]int{up, down, around, doubling}
}
