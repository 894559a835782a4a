package weight_test

import (
	"fmt"
	"math"
	"regexp"
	"strconv"
	"strings"
	"testing"

	"bramble/api"
	"bramble/weight"
)

var rightForm = regexp.MustCompile(`\A[0-9a-f]{8}\z`)

// tryRead holds what Read answers of s against a pattern, the library's reader, and Admit.
func tryRead(t *testing.T, s string) {
	t.Helper()
	wantBits, want := uint32(0), api.ErrForm
	if rightForm.MatchString(s) {
		n, _ := strconv.ParseUint(s, 16, 32)
		var w float32
		w, want = weight.Admit(uint32(n))
		wantBits = math.Float32bits(w)
	}
	if w, e := weight.Read(s); e != want || math.Float32bits(w) != wantBits {
		t.Errorf("P1.1: Read(%q): %08x, %d; asked %08x, %d", s, math.Float32bits(w), e, wantBits, want)
	}
}

func TestTextByExamples(t *testing.T) {
	for b, want := range map[uint32]string{
		0x3fc00000: "3fc00000", 0: "00000000", least: "00000001", greatest: "7f7fffff", plusInf: "7f800000",
		minusZero: "80000000", 0xbf800000: "bf800000", 0x7fc00000: "7fc00000", 0x00abcdef: "00abcdef",
	} {
		if got := weight.Text(of(b)); got != want {
			t.Errorf("P1.1: Text of %08x: %q", b, got)
		}
	}
}

func TestTextEverywhere(t *testing.T) {
	for _, b := range someBits(100000) {
		if got := weight.Text(of(b)); got != fmt.Sprintf("%08x", weight.Bits(of(b))) {
			t.Fatalf("P1.1: Text of %08x: %q", b, got)
		}
	}
}

func TestReadByExamples(t *testing.T) {
	for s, want := range map[string]uint32{"3fc00000": 0x3fc00000, "00000000": 0, "80000000": 0, "7f7fffff": greatest, "00000001": least} {
		if w, e := weight.Read(s); e != api.OK || math.Float32bits(w) != want {
			t.Errorf("P1.1: Read(%q): %08x, %d", s, math.Float32bits(w), e)
		}
	}
	for s, want := range map[string]api.Errno{
		"3FC00000": api.ErrForm, "": api.ErrForm, "3fc0000": api.ErrForm, "3fc000000": api.ErrForm, "g0000000": api.ErrForm,
		"7f800000": api.ErrBadWeight, "7fc00000": api.ErrBadWeight, "bf800000": api.ErrBadWeight, "ffffffff": api.ErrBadWeight, "80000001": api.ErrBadWeight,
		// Texts of numbers that the library's readers take.
		"+3fc0000": api.ErrForm, "-0000001": api.ErrForm, "0x3fc000": api.ErrForm, "3fc0_000": api.ErrForm, " 3fc0000": api.ErrForm, "3fc0000\n": api.ErrForm,
		// Too long, though a right text begins or ends them; a wrong form comes ahead of a bad weight.
		"3fc00000\n": api.ErrForm, " 3fc00000": api.ErrForm, "3fc000003fc00000": api.ErrForm, "7F800000": api.ErrForm,
		// Eight runes that aren't eight bytes, and eight bytes that aren't eight runes.
		"３fc00000": api.ErrForm, "éééé": api.ErrForm, "\x00\x00\x00\x00\x00\x00\x00\x00": api.ErrForm, "\xff\xff\xff\xff\xff\xff\xff\xff": api.ErrForm,
	} {
		if w, e := weight.Read(s); e != want || math.Float32bits(w) != 0 {
			t.Errorf("P1.1: Read(%q): %08x, %d", s, math.Float32bits(w), e)
		}
	}
}

func TestReadOfEveryByteAtEveryPlace(t *testing.T) {
	for _, s := range []string{"3fc00000", "00000000", "7f7fffff", "7f800000", "89abcdef"} {
		for place := range len(s) {
			for b := range 256 {
				tryRead(t, s[:place]+string([]byte{byte(b)})+s[place+1:])
			}
		}
	}
}

func TestReadOfEveryLength(t *testing.T) {
	for n := range 40 {
		tryRead(t, strings.Repeat("0", n))
		tryRead(t, strings.Repeat("3", n))
	}
	tryRead(t, strings.Repeat("0", 1<<20))
}

func TestReadOfText(t *testing.T) {
	for _, b := range someBits(100000) {
		w, e := weight.Read(weight.Text(of(b)))
		if isWeight(b) && (e != api.OK || w != of(b)) {
			t.Fatalf("P1.1: Read of the text of %08x: %08x, %d", b, math.Float32bits(w), e)
		}
		if !isWeight(b) && (e != api.ErrBadWeight || math.Float32bits(w) != 0) {
			t.Fatalf("P1.1: Read of the text of %08x: %08x, %d", b, math.Float32bits(w), e)
		}
	}
}
