package script

import (
	"encoding/hex"
	"fmt"
	"math/rand"
	"strings"
	"testing"

	"abugida/api"
	"abugida/check"
	"abugida/parts"
	"abugida/patch"
	"abugida/relay"
	"abugida/seal"
	"abugida/source"
)

// expect plays the lines of which the answer stands behind //: several lines with | between them, nothing for none.
func expect(t *testing.T, s string) {
	t.Helper()
	var commands, want []string
	for _, line := range strings.Split(strings.TrimSpace(s), "\n") {
		command, answer, found := strings.Cut(strings.TrimSpace(line), " // ")
		commands = append(commands, command)
		if found {
			want = append(want, strings.Split(answer, "|")...)
		}
	}
	got := strings.Split(strings.TrimSuffix(Play(strings.Join(commands, "\n")), "\n"), "\n")
	for k := range max(len(got), len(want)) {
		if k >= len(got) || k >= len(want) || got[k] != want[k] {
			t.Fatalf("line %d of\n%s\nis not as expected:\n%s", k, strings.Join(got, "\n"), strings.Join(want, "\n"))
		}
	}
}

const square = "font f 1;char 64 1 64;glyph 0;glyph 64;contour 0,0 64,0 64,64 0,64;"

const opened = `
	make 0 ` + square + ` // ok
	doc 40 0 // ok
	para 4 0 - 4041 // ok
	open s 4000 // ok
`

// P39.1
func TestExample(t *testing.T) {
	script := "make 0 " + square + "\ndoc 40 0\npara 4 0 - 4041\nopen s 4000\ncore 0 s 0\nplaces\nwants\nshown\npatch 0 2 1 0\nshown\ncompare\ncopy 0 2\n"
	want := "ok\nok\nok\nok\nok\n0 0 font 0 line 0 at 0 width 4\n0 1 font -1 line 0 at 4 width 2\nwant 0 2 1 0\nwaiting\npixels 0 0 0 0 -\nok\npixels 0 0 4 4 f,f,f,f\npixels 0 0 0 0 -\nsame 1 of 1\n4041\n"
	if got := Play(script); got != want {
		t.Error(got)
	}
	if got := Play(strings.TrimSuffix(script, "\n")); got != want {
		t.Error("without the last byte", got)
	}
}

// P39.1
func TestSizes(t *testing.T) {
	for _, x := range []struct{ script, want string }{
		{"", ""}, {"\n", ""}, {"\n\n\n", ""}, {strings.Repeat("\n", 400), ""}, {strings.Repeat("\n", 401), "error 2\n"}, {strings.Repeat("\n", 400) + "x", "error 2\n"}, {strings.Repeat("\n", 399) + "net", "ok\n"}, {strings.Repeat("x", 20000), "error 4\n"}, {strings.Repeat("x", 20001), "error 2\n"}, {"net\n\nnet\n", "ok\nok\n"},
	} {
		if got := Play(x.script); got != x.want {
			t.Errorf("%.20q of %d bytes: %.30q", x.script, len(x.script), got)
		}
	}
}

// P39.2
func TestErrors(t *testing.T) {
	for _, line := range []string{
		" ", "x", "Net", " net", "net ", "net  x", "net y", "net 1", "net 1/", "net /1", "net 1/1/1", "net 01/1", "make", "make 0", "make 0 ", "make x font a 1", "make  0 font a 1;", "doc", "doc 40", "doc 40 ", "doc x 0", "doc 40 0 x", "para 4 0 -", "para 4 0 - 4", "para 4 0 - 4G", "para 4 0 - 4A41", "para 4 0 - ", "para 4 0 1, 40", "para 4 0 ,1 40", "para 4 0 01 40", "para 4 0 1,,2 40", "para 4 0 - 40 40", "para 4 x - 40",
		"open S 4", "open s", "open s 4 4", "open s x", "open  4", "core 0 s", "core 0 s x", "core 0 s 0 0", "core x s 0", "core 0 S 0", "note f 1 - s", "note F 1 - s 0", "note f 1 x s 0", "note f 1 - s 0 0", "patch 0 1 2", "patch 0 1 2 3 4", "base 0 1 2 3 4 5", "base 0 1 2 3 4 5 6 7", "bent 0 1 2 3", "bent 0 1 2 3 4 5", "drop 0 1 2", "drop 0 1 2 3 4", "set 0 4 0", "set 0 4 0 - 4", "move 0", "move 0 0 0", "wants 1", "places 1", "shown 1", "copy 1", "copy 1 2 3", "copy 1 -0", "compare 1",
		"relay 2", "relay 2 3 4", "load 2", "load 2 0 0", "serve", "serve 0 0", "want", "want 1 1", "run", "run 1 1", "run 12345678", "panel 8", "panel 8 8 8", "cut", "cut 1 1", "cut --1", "show", "show 1 1", "pixels 1", "seal 4", "seal 4 5 6", "check 1", "without", "without 1 1", "wants\r", "compare\t",
	} {
		if got := Play(line); got != "error 4\n" {
			t.Errorf("%q: %q", line, got)
		}
	}
	for _, line := range []string{"make 10 x", "make -1 x", "doc 40 0", "doc 40 10", "core 0 s 0", "core 10 s 0", "core -1 s 0", "patch 0 2 1 0", "base 1 2 1 0 2 1 0", "bent 9 2 1 0 5", "move 0 0", "load 2 0", "load 1 0", "load 4 0", "relay 1 5", "relay 4 5", "relay 0 0", "serve 0", "serve 10", "want 0", "want 4", "want -1"} {
		if got := Play(line); got != "error 5\n" {
			t.Errorf("%q: %q", line, got)
		}
	}
	for _, line := range []string{"para 4 0 - 40", "open s 4", "note f 1 - s 0", "drop 0 1 2 3", "set 0 4 0 -", "wants", "places", "shown", "copy 0 1", "compare", "relay 2 0", "relay 3 -5", "want 1", "panel 0 8", "panel 8 65", "cut 1", "show 1", "pixels", "seal 4 5", "check", "without 0"} {
		if got := Play(line); got != "error 1\n" {
			t.Errorf("%q: %q", line, got)
		}
	}
	expect(t, `
		make 0 `+square+` // ok
		core 0 s 0 // error 1
		patch 0 2 1 0 // error 1
		base 0 2 1 0 2 0 0 // error 1
		bent 0 2 1 0 5 // error 1
		move 0 0 // error 1
		load 2 0 // error 1
		load 1 0 // error 5
		load 2 1 // error 5
		panel 8 8 // ok
		show 1 // error 1
		doc 40 0 1 // error 5
		seal 4 5 // error 1
		net x 1/2 -3/-4 // ok
	`)
}

// P39.3
func TestFontsAndDocuments(t *testing.T) {
	expect(t, `
		make 0 font a 1;glyph 030; // line 2 error 4
		make 0 font a 0;glyph 3; // line 0 error 43
		make 0 font a 1 // line 1 error 4
		make 0 font a 1; // line 0 error 2
		make 0 ; // line 1 error 4
		make 10 font a 1;glyph 3; // error 5
		doc 40 0 // error 5
		make 0 `+square+` // ok
		make 9 font g 7;char 65 0 64;glyph 3; // ok
		doc 40 0 9 // ok
		para 4 0 - 40 // ok
		para 8 0 1,-2 - // ok
		para 4 0 - 41ff0a // ok
		open s -1 // error 1
		open s 4000 // ok
		para 4 0 - 40 // error 1
		wants // want 0 0 0 0|want 1 0 0 0
		core 9 s 0 // ok
		wants // want 0 0 0 0
		places // none
		core 0 s 15 // ok
		core 0 s 16 // error 45
		core 0 t 0 // error 45
		core 0 s -1 // error 45
		places // 0 0 font 0 line 0 at 0 width 4|2 0 font 1 line 2 at 0 width 4|2 1 font -1 line 2 at 4 width 2|2 2 font -1 line 2 at 6 width 0
		copy 0 99 // 400a0a41ff0a
		copy 1 1 // -
		open s 10 // ok
		places // none
		doc 40 0 // ok
		places // error 1
		para 3 0 - 40 // ok
		open s 4000 // error 3
		doc 401 0 // ok
		open s 4000 // error 3
		doc 40 0 0 // ok
		open s 4000 // error 6
		doc 40 0 0 0 0 // ok
		open s 4000 // error 2
	`)
}

// P39.4
func TestDisplay(t *testing.T) {
	expect(t, opened+`
		shown // none
		compare // same 0 of 0
		patch 0 2 1 0 // error 54
		core 0 s 0 // ok
		compare // same 0 of 1
		bent 0 2 1 0 5 // error 42
		bent 0 2 1 0 -1 // error 42
		patch 0 2 2 0 // error 5
		base 0 2 1 0 2 0 0 // error 44
		base 0 2 1 0 2 9 0 // error 5
		patch 0 2 0 0 // ok
		base 0 2 1 0 2 0 0 // ok
		compare // same 1 of 1
		drop 0 2 1 0 // ok
		drop 0 2 1 0 // error 5
		drop 1 2 1 0 // error 5
		compare // same 1 of 1
		set 0 5 0 - // ok
		shown // waiting|pixels 0 0 0 0 -
		places // 0 0 font 0 line 0 at 0 width 5|0 1 font -1 line 0 at 5 width 2
		compare // same 0 of 1
		set 1 5 0 - // error 1
		set 0 3 0 - // error 3
		set 0 5 0 65 // error 10
		patch 0 2 1 0 // ok
		compare // same 1 of 1
		note g 2 1 s 0 // error 54
		note f 2 1 t 0 // error 45
		note f 2 1,3 s 99 // error 45
		note f 2 1,3 s 0 // ok
		note f 1 - s 0 // error 43
		shown // waiting|pixels 0 0 0 0 -
		compare // same 0 of 1
		patch 0 2 1 0 // error 47
		wants // none
		make 1 font f 3;char 64 0 64;glyph 0; // ok
		make 2 font f 2;char 64 1 32;char 65 0 32;glyph 64;glyph 64;contour 0,0 64,0 64,64 0,64; // ok
		move 0 0 // error 43
		move 0 1 // error 47
		move 1 2 // error 1
		move 0 2 // ok
		wants // want 0 0 0 0
		places // none
		compare // same 0 of 0
		core 0 s 1 // error 43
		core 2 s 1 // ok
		places // 0 0 font 0 line 0 at 0 width 3|0 1 font 0 line 0 at 3 width 3
		compare // same 0 of 2
		patch 0 2 1 0 // error 43
		patch 2 2 1 0 // ok
		compare // same 1 of 2
		wants // want 0 2 0 0
		patch 2 2 0 0 // ok
		compare // same 2 of 2
		copy 1 2 // 41
		shown // pixels 0 0 5 5 1f,1f,1f,1f,1f|pixels 0 0 0 0 -
	`)
}

// P39.5
func TestNet(t *testing.T) {
	two := "font f 1;char 64 1 64;char 65 2 9;glyph 0;glyph 64;contour 0,0 64,0 64,64 0,64;glyph 3;"
	f, _, _ := source.Parse(strings.ReplaceAll(two, ";", "\n"))
	f = parts.Rooted(f)
	size := 0
	for _, k := range parts.Keys(f)[1:] {
		p, _ := patch.Make(f, k, api.Key{})
		size += len(patch.Encode(p))
	}
	start := `
		make 0 ` + two + ` // ok
		doc 40 0 // ok
		para 4 0 - 4041 // ok
		open s 4000 // ok
		want 1 // asked 0
		run 5 // none
		core 0 s 0 // ok
	`
	expect(t, start+`
		want 1 // asked 2
		run 1 // 1 told 0
		run 1 // none
		serve 0 // ok
		want 1 // asked 2
		run 0
		run -3
		run 1 // 1 told 2
		run 9 // 0 took 2 of 2|none
		compare // same 2 of 2
		want 1 // asked 0
		run 1 // none
	`)
	expect(t, start+`
		want 2 // asked 2
		run 3 // 2 kept 0|none
		relay 2 `+fmt.Sprint(size)+` // ok
		want 2 // asked 2
		run 1 // 2 kept 0
		run 1 // 0 took 0 of 0
		load 2 0 // kept 2
		load 3 0 // error 1
		want 2 // asked 2
		run 7 // 2 kept 2|0 took 2 of 2|none
		compare // same 2 of 2
		relay 2 `+fmt.Sprint(size-1)+` // ok
		load 2 0 // kept 1
		relay 3 1 // ok
		load 3 0 // kept 0
	`)
	// The trouble is counted by message: the first request is lost, the second one comes twice, and is answered twice.
	expect(t, start+`
		serve 0 // ok
		net x 2/5 1/1 3/0 // ok
		want 1 // asked 2
		run 3 // none
		want 1 // asked 2
		run 1 // 1 told 2
		run 2 // 1 told 2|0 took 2 of 2
		run 9 // 0 took 2 of 2|0 took 2 of 2|0 took 2 of 2|none
	`)
	// Another version is not told; a display that is gone takes nothing.
	expect(t, start+`
		make 1 font f 2;char 64 0 9;glyph 1; // ok
		serve 1 // ok
		want 1 // asked 2
		run 2 // 1 told 0|none
		serve 0 // ok
		want 1 // asked 2
		run 1 // 1 told 2
		doc 40 0 // ok
		run 2 // 0 took 0 of 0|none
	`)
	// The server tells only what is a key of the font that the slot has now.
	expect(t, start+`
		serve 0 // ok
		want 1 // asked 2
		make 0 font f 1;char 64 1 64;glyph 0;glyph 5; // ok
		run 2 // 1 told 1|0 took 0 of 1
	`)
}

// P39.5: what is not a request or an answer.
func TestRunOfOtherMessages(t *testing.T) {
	p := &player{lines: nil}
	if p.takeAll(api.Message{Text: "x"}); p.out.String() != "0 took 0 of 0\n" {
		t.Error(p.out.String())
	}
	p = &player{}
	if p.answer(api.Message{Text: relay.Told(nil)}); p.out.String() != "1 told 0\n" {
		t.Error(p.out.String())
	}
}

// P39.6
func TestPanel(t *testing.T) {
	expect(t, opened+`
		panel 65 1 // error 1
		panel 8 18 // ok
		show 4 // updates 0
		core 0 s 0 // ok
		show 4 // updates 1
		pixels // 0|0|0|0|0|0|0|0|0|0|0|0|0|0|f|0|0|0
		patch 0 2 1 0 // ok
		cut 2 // ok
		show 4 // error 52
		pixels // 0|0|0|0|0|0|0|0|0|f|f|0|0|0|f|0|0|0
		show 1 // error 52
		cut -1 // ok
		show 0 // updates 0
		show 4 // updates 2
		pixels // 0|0|0|0|0|0|0|0|0|f|f|f|f|0|0|0|0|0
		show 4 // updates 0
		panel 2 11 // ok
		show 4 // updates 1
		pixels // 0|0|0|0|0|0|0|0|0|3|3
	`)
	expect(t, `
		make 0 font f 1;char 10 0 9;char 64 1 64;glyph 0;glyph 64;contour 16,-16 64,-16 64,32 16,32; // ok
		doc 40 0 // ok
		para 4 0 - 400a4140 // ok
		open s 4000 // ok
		core 0 s 0 // ok
		panel 8 40 // ok
		show 9 // updates 2
		cut 0 // ok
		pixels // `+strings.Repeat("0|", 14)+"f|"+strings.Repeat("0|", 15)+"3c|"+strings.Repeat("0|", 8)+`0
		cut -7 // ok
		patch 0 2 1 0 // ok
		shown // pixels 1 -1 3 3 7,7,7|pixels 0 0 0 0 -|pixels 0 0 0 0 -|pixels 1 -1 3 3 7,7,7
		show 9 // updates 2
		pixels // `+strings.Repeat("0|", 11)+"e|e|e|"+strings.Repeat("0|", 13)+"38|38|38|"+strings.Repeat("0|", 9)+`0
	`)
}

// P39.7
func TestSeals(t *testing.T) {
	text := "font f 1;axis w -9 0 9 -9=-64 0=0 9=64;region 0/64/64;lookup 0;rule | {1} | > 2;char 64 1 64;glyph 0;glyph 64;glyph 7;anchor 1 0,0;delta 0 0 1,1 0,0;glyph 5;"
	expect(t, `
		make 0 `+text+` // ok
		doc 40 0 // ok
		para 8 0 5 40 // ok
		seal 3 9 // error 3
		check // error 1
		seal 9 12 // error 3
		seal 4 32 // parts 5
		check // ok
		without 0 // error 61
		without 1 // error 62
		without 4 // error 62
		without 5 // error 5
		without -1 // error 5
		check // ok
		make 0 font f 1;char 64 0 9;glyph 1; // ok
		check // ok
		seal 4 32 // error 43
		check // ok
		doc 40 0 // ok
		check // error 1
		seal 4 5 // parts 1
		without 0 // error 62
	`)
	f, _, _ := source.Parse(strings.ReplaceAll(text, ";", "\n"))
	f = parts.Rooted(f)
	d := api.Doc{Width: 40, Fonts: []api.Pin{{Name: "f", Version: 1, Root: f.Core.Root}}, Paras: []api.Para{{Text: "@", Set: api.Setting{Size: 8, At: []int{5}}}}}
	s, e := seal.Make(d, []api.Font{f}, [2]int{4, 32}, [][][2]int{{{-64, 64}}})
	if e != api.OK || len(s.Parts) != 5 || check.Check(s) != api.OK {
		t.Error(len(s.Parts), e)
	}
}

// randomScript returns lines of commands, most of them right.
func randomScript(r *rand.Rand) string {
	fonts := []string{
		"font a 1;axis w -9 0 9 -9=-64 0=0 9=64;region 0/64/64;lookup 0;rule | {1} | {2} > 3;lookup 5;rule | {2} | > 1 1;char 64 1 30;char 65 2 40;char 97 3 9;char 104 2 20;glyph 3;glyph 30;contour 0,0 40,0 40,40 0,40;delta 0 5 0,0 9,0 9,9 0,0 0,0;glyph 20;contour 0,0 20,0~ 20,60;glyph 9;contour 5,5 9,50 30,5;",
		"font b 1;char 65 0 30;char 66 1 30;glyph 9;glyph 30;contour 0,0 40,0 40,40 0,40;program gety 1 round sety 1;",
		"font a 2;axis w -9 0 9 -9=-64 0=0 9=64;region -64/-9/0;lookup 0;rule {2} | {1} | > 0;char 64 1 30;char 65 2 40;char 97 2 9;glyph 3;glyph 30;contour 0,0 40,0 40,40 0,40;glyph 20;contour 0,0 20,0~ 20,60;delta 0 1 1,1 2,2 3,3 0,0;",
	}
	var l []string
	for k, f := range fonts {
		l = append(l, fmt.Sprintf("make %d %s", k, f))
	}
	l = append(l, "doc 40 0 1")
	for range 1 + r.Intn(3) {
		var text []byte
		for range 1 + r.Intn(6) {
			text = append(text, []byte{64, 65, 66, 97, 104, 10, 240}[r.Intn(7)])
		}
		l = append(l, fmt.Sprintf("para %d %d %d %s", 4+r.Intn(9), r.Intn(64), r.Intn(129)-64, hex.EncodeToString(text)))
	}
	l = append(l, fmt.Sprintf("open s %d", 100+r.Intn(900)), "net 1/0 2/3 x 1/9 2/1 1/1 x", "relay 2 600", "load 2 0", "serve 0", "serve 1", "panel 40 40")
	if r.Intn(4) > 0 {
		l = append(l, "core 0 s 0", "core 1 s 1")
	}
	n := func(k int) int { return r.Intn(k) }
	for range 40 {
		l = append(l, []string{
			fmt.Sprintf("core %d s 3", n(3)), fmt.Sprintf("patch %d 2 %d 0", n(3), n(4)), fmt.Sprintf("patch %d 1 %d 0", n(3), n(2)), fmt.Sprintf("patch %d 3 %d 0", n(3), n(3)), fmt.Sprintf("base %d 2 %d 0 2 %d 0", n(3), n(3), n(3)), fmt.Sprintf("bent %d 2 %d 0 %d", n(3), n(3), n(40)-9), fmt.Sprintf("drop %d 2 %d 0", n(2), n(4)), fmt.Sprintf("set 0 %d %d %d", 4+n(9), n(64), n(129)-64), fmt.Sprintf("want %d", 1+n(2)), "run 3", "run 9", "shown", "wants", "places", "compare", "show 3", fmt.Sprintf("cut %d", n(30)-5), "pixels", "seal 4 32", "check", fmt.Sprintf("without %d", n(6)), "copy 0 9",
			[]string{"compare", "move 0 2", fmt.Sprintf("note a 1 %d s 0", n(4)), "open s 500"}[max(0, n(12)-8)],
		}[n(23)], "compare")
	}
	return strings.Join(l, "\n") + "\n"
}

// P39.8, P39.9
func TestScripts(t *testing.T) {
	r := rand.New(rand.NewSource(39))
	same := 0
	for range 150 {
		s := randomScript(r)
		out := Play(s)
		if strings.Contains(out, "different") || Play(s) != out {
			t.Fatalf("%s\nprints\n%s", s, out)
		}
		if strings.Contains(out, "error 4\n") {
			t.Fatalf("a line is no command:\n%s", s)
		}
		same += strings.Count(out, "same 2 of ") + strings.Count(out, "same 3 of ")
		lines := strings.SplitAfter(s, "\n")
		cut := r.Intn(len(lines))
		if !strings.HasPrefix(out, Play(strings.Join(lines[:cut], ""))) {
			t.Fatalf("cut behind %d lines:\n%s", cut, s)
		}
	}
	if same < 50 {
		t.Error("too little is shown", same)
	}
}

// P39.1: whatever the script is, it ends.
func TestBentScripts(t *testing.T) {
	r := rand.New(rand.NewSource(40))
	for range 400 {
		b := []byte(randomScript(r))
		for range r.Intn(30) {
			b[r.Intn(len(b))] = " \n-,;/0123456789abcdefx"[r.Intn(23)]
		}
		if out := Play(string(b)); out != "" && !strings.HasSuffix(out, "\n") {
			t.Fatal("a line without an end")
		}
	}
}
