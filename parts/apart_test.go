package parts_test

import (
	"slices"
	"testing"

	"bramble/parts"
)

// change: one way to change parts.
type change struct {
	name string
	do   func(p *parts.Parts[string])
}

func changes() []change {
	return []change{
		{"Add", func(p *parts.Parts[string]) { p.Add("new"); p.Add("") }},
		{"Drop of a head", func(p *parts.Parts[string]) { p.Drop("b") }},
		{"Drop of another thing", func(p *parts.Parts[string]) { p.Drop("f") }},
		{"Drop of the greatest", func(p *parts.Parts[string]) { p.Drop("h") }},
		{"Drop of a part of one", func(p *parts.Parts[string]) { p.Drop("e") }},
		{"Join of a lesser part", func(p *parts.Parts[string]) { p.Join("h", "a") }},
		{"Join with a greater part", func(p *parts.Parts[string]) { p.Join("e", "b") }},
		{"Burst", func(p *parts.Parts[string]) { p.Burst("f") }},
		{"Drop, Add and Join", func(p *parts.Parts[string]) { p.Drop("b"); p.Add("aa"); p.Join("aa", "h") }},
		{"all joined", func(p *parts.Parts[string]) { p.Join("a", "b"); p.Join("a", "e") }},
		{"all dropped", dropAll},
		{"all other ones", func(p *parts.Parts[string]) { dropAll(p); p.Add("x"); p.Add("y"); p.Join("x", "y") }},
	}
}

func dropAll(p *parts.Parts[string]) {
	for _, h := range p.Heads() {
		for _, k := range p.Members(h) {
			p.Drop(k)
		}
	}
}

// three: parts of four things, of two and of one. Others were dropped from them, so that their lists may have room.
func three() *parts.Parts[string] {
	p := of("h", "a", "e", "gone", "d", "b", "left", "f", "c", "z")
	for _, j := range [][2]string{{"h", "b"}, {"gone", "h"}, {"f", "d"}, {"d", "gone"}, {"z", "b"}, {"left", "c"}, {"c", "a"}} {
		p.Join(j[0], j[1])
	}
	for _, k := range []string{"gone", "left", "z"} {
		p.Drop(k)
	}
	return p
}

func wantThree(t *testing.T, p *parts.Parts[string]) {
	t.Helper()
	wantLen(t, p, 7)
	wantList(t, "Heads", p.Heads(), "a", "b", "e")
	for _, part := range threeParts() {
		for _, k := range part {
			wantHead(t, p, k, part[0])
			wantList(t, "Members", p.Members(k), part...)
		}
	}
	for _, k := range []string{"", "aa", "gone", "left", "new", "scribbled", "z"} {
		wantOut(t, p, k, "b")
	}
}

func threeParts() [][]string {
	return [][]string{{"a", "c"}, {"b", "d", "f", "h"}, {"e"}}
}

// scribble writes into a list and into its spare room.
func scribble(list []string) {
	list = list[:cap(list)]
	for i := range list {
		list[i] = "scribbled"
	}
}

// lists: all that the parts answer.
func lists(p *parts.Parts[string]) [][]string {
	all := [][]string{p.Heads()}
	for _, k := range []string{"a", "b", "c", "d", "e", "f", "h", "gone", "x", "new"} {
		all = append(all, p.Members(k))
	}
	return all
}

func TestWrittenIntoAnAnswer(t *testing.T) {
	p := three()
	wantThree(t, p)
	for range 3 {
		for _, list := range lists(p) {
			scribble(list)
			wantThree(t, p)
		}
	}
}

func TestAppendedToAnAnswer(t *testing.T) {
	p := three()
	for _, list := range lists(p) {
		_ = append(list, "scribbled")
		wantThree(t, p)
	}
}

// No list shares memory with another one, of the same call or of another.
func TestAnswersApart(t *testing.T) {
	p := three()
	all := append(lists(p), lists(p)...)
	for at, list := range all {
		before := copies(all)
		scribble(list)
		for other := range all {
			if other != at {
				wantList(t, "another list", all[other], before[other]...)
			}
		}
	}
}

func copies(all [][]string) [][]string {
	var to [][]string
	for _, list := range all {
		to = append(to, slices.Clone(list))
	}
	return to
}

func TestChangesAreNotSeenInAnswers(t *testing.T) {
	for _, c := range changes() {
		t.Run(c.name, func(t *testing.T) {
			p := three()
			all := lists(p)
			before := copies(all)
			c.do(p)
			for at := range all {
				wantList(t, "a list of earlier", all[at], before[at]...)
			}
		})
	}
}

// What is written into the answers is not seen behind a change either, as the parts' own lists are moved there.
func TestWrittenIntoAnswersAheadOfAChange(t *testing.T) {
	for _, c := range changes() {
		t.Run(c.name, func(t *testing.T) {
			p, other := three(), three()
			for _, list := range lists(p) {
				scribble(list)
			}
			c.do(p)
			c.do(other)
			got, wanted := lists(p), lists(other)
			for at := range wanted {
				wantList(t, "a list behind the change", got[at], wanted[at]...)
			}
		})
	}
}

// Lists that were answered one behind another, each ahead of one more change: none sees the others' changes.
func TestAnswersOfManyTimes(t *testing.T) {
	p := three()
	var all, before [][]string
	for _, c := range append(changes(), changes()...) {
		all = append(all, lists(p)...)
		before = append(before, copies(lists(p))...)
		c.do(p)
	}
	for at := range all {
		wantList(t, "a list of earlier", all[at], before[at]...)
	}
}

func TestPartsApart(t *testing.T) {
	for _, c := range changes() {
		t.Run(c.name, func(t *testing.T) {
			p, other, empty := three(), three(), parts.New[string]()
			c.do(p)
			wantThree(t, other)
			wantLen(t, empty, 0)
			wantList(t, "Heads of the empty ones", empty.Heads())
		})
	}
}

// Parts of one type whose calls are made by turns.
func TestPartsByTurns(t *testing.T) {
	things := []int{4, 2, 5, 1, 3}
	calls := everyCall(things)
	var pairs []*pair[int]
	for range 4 {
		pairs = append(pairs, newPair[int](t))
	}
	for turn := range 500 {
		for at, p := range pairs {
			p.do(calls[(turn*turn+turn*at*3+at)%len(calls)])
		}
		for _, p := range pairs {
			p.compare(things)
		}
	}
}
