package source

import (
	"math/rand"
	"reflect"
	"slices"
	"strings"
	"testing"

	"abugida/api"
	"abugida/font"
)

func lines(s string) string { return strings.ReplaceAll(s, ";", "\n") }

const full = "font abc1 12;axis wght 100 400 900 100=-64 400=0 900=64;axis a 0 0 0 0=0;region 0/32/64 -64/0/9;region -30/-30/-10 0/0/0;" +
	"lookup 0;rule {0} {1,2} | {0} {0,1} | {1} > 1;rule | {1} | call 0:1 0:2;rule | {1} | >;lookup 9;rule | {1} | > 0 0;lookup 4;" +
	"char 65 0 30;char 66 1 128 0=-64 1=64;pair 65 65 -4;pair 65 66 0;" +
	"glyph 30;contour 0,0 10,0~ 5,-20;contour 0,0~ 1,1~ 2,2~;anchor 1 3,-4;anchor 9 0,0;hang 2 5,6;delta 0 -4 0,0 1,1 2,2 3,3 4,4 5,5 6,6 7,7 -8,-8;program push -5 pop;" +
	"glyph 0;glyph 128;contour 1,2 3,4 5,6;program size axis 1 min if loop 8 end else push -5 pop end push 5 dup swap sub at sety 2 push 0 neg load 7 store 0 push 3 max push 1 less round pop getx 0 gety 1 add setx 1 push 0 push 1 size mul move;" +
	"root 00ff0a1b2c3d4e5f;"

// P21.1, P21.2, P21.3
func TestTextsThatAreRead(t *testing.T) {
	for k, s := range []string{
		"font a 1;char 65 0 30;glyph 30;contour 0,0 10,0~ 5,20;program push 5 setx 1;",
		"font a 1;lookup 5;rule | {0} {0,1} | {1} > 1;rule | {1} | call 0:1;lookup 9;rule | {1} | > 0 0;glyph 1;glyph 2;",
		"font a 1;glyph 0;", "font az09 1;glyph 0;", "font a 999;region;region;glyph 0;", "font a 1;lookup 3;glyph 0;", "font a 1;glyph 3;hang 9 -128,128;", "font a 1;glyph 3;glyph 3;root 0000000000000000;",
	} {
		f, n, e := Parse(lines(s))
		if n != 0 || e != api.OK {
			t.Errorf("text %d: %d %v", k, n, e)
			continue
		}
		if got, e := Text(f); e != api.OK || got != lines(s) {
			t.Errorf("text %d comes back as %q %v", k, got, e)
		}
	}
	f, _, _ := Parse(lines("font a 1;lookup 5;rule | {0} {0,1} | {1} > 1;rule | {1} | call 0:1;lookup 9;rule | {1} | > 0 0;glyph 1;glyph 2;"))
	want := api.Font{
		Core: api.Core{Name: "a", Version: 1, Glyphs: 2, Heads: []api.Head{{Feature: 5, First: []int{0, 1}}, {Feature: 9, First: []int{1}}}},
		Lookups: []api.Lookup{
			{Rules: []api.Rule{{In: [][]int{{0}, {0, 1}}, Ahead: [][]int{{1}}, Out: []int{1}}, {In: [][]int{{1}}, Calls: []api.Call{{At: 0, Lookup: 1}}}}},
			{Rules: []api.Rule{{In: [][]int{{1}}, Out: []int{0, 0}}}},
		},
		Glyphs: []api.Glyph{{Advance: 1}, {Advance: 2}},
	}
	if !font.Same(f, want) {
		t.Error("the fields of a font", f)
	}
}

// P21.1, P21.2, P21.3
func TestFullText(t *testing.T) {
	s := lines(full)
	f, n, e := Parse(s)
	if n != 0 || e != api.OK {
		t.Fatal(n, e)
	}
	if got, e := Text(f); got != s || e != api.OK {
		t.Errorf("%q %v", got, e)
	}
	g := f.Glyphs[0]
	if f.Core.Root != "\x00\xff\x0a\x1b\x2c\x3d\x4e\x5f" || len(f.Core.Axes) != 2 || f.Core.Regions[1].Tents[0] != (api.Tent{From: -30, Peak: -30, To: -10}) || g.Contours[0][1] != (api.Point{X: 10}) || g.Hang != (api.Anchor{Class: 2, X: 5, Y: 6}) || g.Deltas[0].Moves[8] != [2]int{-8, -8} || g.Program[0] != (api.Ins{Op: api.OpPush, N: -5}) {
		t.Error("fields", f)
	}
	if f.Core.Chars[1].Wide[1] != (api.Grow{Region: 1, By: 64}) || f.Core.Pairs[0] != (api.Pair{Left: 65, Right: 65, By: -4}) || f.Lookups[0].Rules[1].Calls[1] != (api.Call{At: 0, Lookup: 2}) || !slices.Equal(f.Core.Heads[0].First, []int{0, 1}) {
		t.Error("fields", f.Core)
	}
}

// P21.2
func TestWrongTexts(t *testing.T) {
	type result struct {
		n int
		e api.Errno
	}
	for s, want := range map[string]result{
		"font a 1;glyph 030;": {2, api.ErrForm}, "": {1, api.ErrForm}, "font a 1;glyph 5;char 65 0 1;": {3, api.ErrForm}, "font a 0;glyph 5;": {0, api.ErrVersion}, "font a 1;": {0, api.ErrMany}, "font a 1;glyph 5;program if;": {0, api.ErrLoop},
		";": {1, api.ErrForm}, "font a 1;;glyph 5;": {2, api.ErrForm}, "glyph 5;": {1, api.ErrForm}, "font a 1;font a 1;glyph 5;": {2, api.ErrForm}, "font A 1;": {1, api.ErrForm}, "font  1;": {1, api.ErrForm}, "font a;": {1, api.ErrForm}, "font a 1 1;": {1, api.ErrForm}, " font a 1;": {1, api.ErrForm}, "font a 1 ;": {1, api.ErrForm}, "font  a 1;": {1, api.ErrForm},
		"font 1a 1;glyph 5;": {0, api.ErrName}, "font abcdefghijklm 1;glyph 5;": {0, api.ErrName}, "start;font a 1;": {1, api.ErrForm}, "font a 1;start;": {2, api.ErrForm}, "font a 1;Glyph 5;": {2, api.ErrForm}, "font a +1;": {1, api.ErrForm}, "font a 12345678;": {1, api.ErrForm}, "font a 1234567;glyph 0;": {0, api.ErrVersion},
		"font a 1;glyph -0;": {2, api.ErrForm}, "font a 1;glyph 00;": {2, api.ErrForm}, "font a 1;glyph -;": {2, api.ErrForm}, "font a 1;glyph;": {2, api.ErrForm}, "font a 1;glyph 1 2;": {2, api.ErrForm}, "font a 1;glyph -1;": {0, api.ErrRange}, "font a 1;glyph -01;": {2, api.ErrForm}, "font a 1;glyph --1;": {2, api.ErrForm}, "font a 1;glyph 1a;": {2, api.ErrForm},
		"font a 1;glyph 5;contour;": {0, api.ErrPoint}, "font a 1;glyph 5;contour 1;": {3, api.ErrForm}, "font a 1;glyph 5;contour 1,2,3;": {3, api.ErrForm}, "font a 1;glyph 5;contour 1,2~~;": {3, api.ErrForm}, "font a 1;glyph 5;contour ~1,2;": {3, api.ErrForm}, "font a 1;glyph 5;contour 1, 2;": {3, api.ErrForm},
		"font a 1;contour 0,0 1,1 2,2;": {2, api.ErrForm}, "font a 1;glyph 5;hang 1 1,2;hang 1 1,2;": {4, api.ErrForm}, "font a 1;glyph 5;hang 0 1,2;": {3, api.ErrForm}, "font a 1;glyph 5;hang 10 1,2;": {0, api.ErrAnchor}, "font a 1;glyph 5;anchor 1;": {3, api.ErrForm}, "font a 1;glyph 5;anchor 1 1,2 3;": {3, api.ErrForm}, "font a 1;glyph 5;hang 1 1,2;anchor 1 1,2;": {4, api.ErrForm}, "font a 1;glyph 5;delta 0 0 0,0;": {0, api.ErrDelta}, "font a 1;glyph 5;delta 0 0;anchor 1 1,2;": {4, api.ErrForm}, "font a 1;glyph 5;delta 0;": {3, api.ErrForm}, "font a 1;glyph 5;delta 0 0 1;": {3, api.ErrForm},
		"font a 1;glyph 5;program;": {3, api.ErrForm}, "font a 1;glyph 5;program push;": {3, api.ErrForm}, "font a 1;glyph 5;program pop 1;": {3, api.ErrForm}, "font a 1;glyph 5;program Pop;": {3, api.ErrForm}, "font a 1;glyph 5;program size;program size;": {4, api.ErrForm}, "font a 1;glyph 5;program size;contour 0,0 1,1 2,2;": {4, api.ErrForm}, "font a 1;glyph 5;program size size;glyph 5;": {0, api.OK}, "font a 1;glyph 5;program loop 2 end;": {0, api.OK},
		"font a 1;glyph 5;root;": {3, api.ErrForm}, "font a 1;glyph 5;root 0;": {3, api.ErrForm}, "font a 1;glyph 5;root 0A;": {3, api.ErrForm}, "font a 1;glyph 5;root 00;": {0, api.ErrRoot}, "font a 1;glyph 5;root 0011223344556677;root 0011223344556677;": {4, api.ErrForm}, "font a 1;glyph 5;root 0011223344556677;glyph 5;": {4, api.ErrForm}, "font a 1;root 0011223344556677;": {0, api.ErrMany}, "font a 1;glyph 5;root 00 00;": {3, api.ErrForm},
		"font a 1;region 0/0;": {2, api.ErrForm}, "font a 1;region 0/0/0/0;": {2, api.ErrForm}, "font a 1;region 0/0/0;glyph 5;": {0, api.ErrRegion}, "font a 1;region;axis a 0 0 0 0=0;": {3, api.ErrForm}, "font a 1;axis a 0 0;": {2, api.ErrForm}, "font a 1;axis a 0 0 0;glyph 5;": {0, api.ErrAxis}, "font a 1;axis a 0 0 0 0;": {2, api.ErrForm}, "font a 1;axis a 0 0 0 0=0=0;": {2, api.ErrForm}, "font a 1;axis A 0 0 0 0=0;": {2, api.ErrForm},
		"font a 1;rule | {0} | > 0;": {2, api.ErrForm}, "font a 1;lookup 0;rule | {0} | >;glyph 1;": {0, api.OK}, "font a 1;lookup 0;rule | {0} |;": {3, api.ErrForm}, "font a 1;lookup 0;rule | {0} > 0;": {3, api.ErrForm}, "font a 1;lookup 0;rule {0} > 0;": {3, api.ErrForm}, "font a 1;lookup 0;rule | {0} | call;": {3, api.ErrForm}, "font a 1;lookup 0;rule | {0} | call 0;": {3, api.ErrForm}, "font a 1;lookup 0;rule | {0} | > 0 call 0:1;": {3, api.ErrForm}, "font a 1;lookup 0;rule | {0} | call 0:1 > 1;": {3, api.ErrForm}, "font a 1;lookup 0;rule | {0} | > >;": {3, api.ErrForm}, "font a 1;lookup 0;rule | {0} | | > 0;": {3, api.ErrForm},
		"font a 1;lookup 0;rule | {} | > 0;glyph 1;": {0, api.ErrRule}, "font a 1;lookup 0;rule | | > 0;glyph 1;": {0, api.ErrRule}, "font a 1;lookup 0;rule | {0,} | > 0;": {3, api.ErrForm}, "font a 1;lookup 0;rule | {0, 1} | > 0;": {3, api.ErrForm}, "font a 1;lookup 0;rule | 0 | > 0;": {3, api.ErrForm}, "font a 1;lookup 0;rule | {0 | > 0;": {3, api.ErrForm}, "font a 1;lookup 0;rule | { | > 0;": {3, api.ErrForm}, "font a 1;lookup 0;rule | } | > 0;": {3, api.ErrForm}, "font a 1;lookup;": {2, api.ErrForm}, "font a 1;lookup 0 0;": {2, api.ErrForm}, "font a 1;lookup 10;glyph 1;": {0, api.ErrRule}, "font a 1;lookup 0;region;": {3, api.ErrForm},
		"font a 1;char 65 0;": {2, api.ErrForm}, "font a 1;char 65 0 1 2;": {2, api.ErrForm}, "font a 1;char 65 0 1 0=1;glyph 1;": {0, api.ErrRegion}, "font a 1;char 65 0 1;lookup 0;": {3, api.ErrForm}, "font a 1;pair 1 2;": {2, api.ErrForm}, "font a 1;pair 1 2 3 4;": {2, api.ErrForm}, "font a 1;pair 1 2 3;char 65 0 1;": {3, api.ErrForm}, "font a 1;pair 2 2 3;pair 1 2 3;glyph 1;": {0, api.ErrSort},
	} {
		f, n, e := Parse(lines(s))
		if n != want.n || e != want.e || e != api.OK && !reflect.DeepEqual(f, api.Font{}) {
			t.Errorf("%q: %d %v, not %v", s, n, e, want)
		}
	}
	for s, want := range map[string]int{"font a 1": 1, "font a 1\nglyph 5": 2, "font a 1\r\nglyph 5\n": 1, "font a 1\n\n": 2, "font\ta 1\n": 1, "font a 1\nglyph 5\n ": 3} {
		if _, n, e := Parse(s); n != want || e != api.ErrForm {
			t.Errorf("%q: %d %v", s, n, e)
		}
	}
}

// P21.1
func TestTextOfWrongFonts(t *testing.T) {
	for k, f := range []api.Font{{}, {Core: api.Core{Name: "a"}}, {Core: api.Core{Name: "a", Version: 1, Glyphs: 1}}, {Core: api.Core{Name: "a", Version: 1, Glyphs: 1}, Glyphs: []api.Glyph{{Advance: -1}}}} {
		if s, e := Text(f); e != []api.Errno{api.ErrName, api.ErrVersion, api.ErrMany, api.ErrRange}[k] || s != "" {
			t.Errorf("font %d: %v", k, e)
		}
	}
}

// P21.3, P21.4: whatever is read is the text of what was read, and a right beginning is not blamed.
func TestBentTexts(t *testing.T) {
	r := rand.New(rand.NewSource(21))
	good := lines("font abc1 12;axis a 0 0 9 0=0 9=64;region 0/32/64;lookup 0;rule {0} | {0} {0,1} | {1} > 1;lookup 9;rule | {1} | > 0 0;char 65 0 30;pair 65 65 -4;glyph 30;contour 0,0 10,0~ 5,-20;anchor 1 3,-4;hang 2 5,6;delta 0 -4 0,0 1,1 2,2 3,3 4,4;program push -5 pop;glyph 0;root 00ff0a1b2c3d4e5f;")
	if _, n, e := Parse(good); n != 0 || e != api.OK {
		t.Fatal(n, e)
	}
	some := "0123456789abcdefghijklmnopqrstuvwxyz -,=/|{}>:~\n"
	read := 0
	for range 20000 {
		b := []byte(good)
		for range 1 + r.Intn(2) {
			k := r.Intn(len(b))
			switch r.Intn(3) {
			case 0:
				b[k] = some[r.Intn(len(some))]
			case 1:
				b = slices.Delete(b, k, k+1)
			case 2:
				b = slices.Insert(b, k, some[r.Intn(len(some))])
			}
		}
		f, n, e := Parse(string(b))
		if e == api.OK {
			read++
			if s, e := Text(f); e != api.OK || s != string(b) {
				t.Fatalf("%q comes back as %q", b, s)
			}
		}
		same := 0
		for same < len(b) && same < len(good) && b[same] == good[same] {
			same++
		}
		if whole := strings.Count(good[:same], "\n"); n != 0 && n <= whole {
			t.Fatalf("%q: line %d", b, n)
		}
	}
	if read < 500 {
		t.Error("too few texts are read", read)
	}
}
