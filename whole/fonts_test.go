package whole

import (
	"fmt"
	"math/rand"
	"strings"
	"testing"

	"abugida/api"
	"abugida/font"
	"abugida/parts"
	"abugida/sign"
	"abugida/source"
	"abugida/wire"
)

const script39 = "make 0 font f 1;char 64 1 64;glyph 0;glyph 64;contour 0,0 64,0 64,64 0,64;\ndoc 40 0\npara 4 0 - 4041\nopen s 4000\ncore 0 s 0\nwants\npatch 0 2 1 0\nshown\ncompare\nseal 4 8\ncheck\nnet 2/0 x\nrelay 2 900\nload 2 0\nwant 2\nrun 9\npanel 9 40\nshow 3\npixels\n"

func parse(t *testing.T, s string) api.Font {
	t.Helper()
	f, n, e := source.Parse(strings.ReplaceAll(s, ";", "\n"))
	if e != api.OK {
		t.Fatal(n, e, s)
	}
	return parts.Rooted(f)
}

// randomFont returns a right font with 3 lookups, 8 glyphs, one axis, marks and programs.
func randomFont(t *testing.T, r *rand.Rand, name string, version int, codes []int) api.Font {
	t.Helper()
	set := func() string {
		a := r.Intn(5)
		return fmt.Sprintf("{%d,%d}", a, a+1+r.Intn(3))
	}
	s := fmt.Sprintf("font %s %d;axis w -9 0 9 -9=-64 0=0 9=64;region 0/64/64;region -64/-10/0;", name, version)
	for k := range 3 {
		s += fmt.Sprintf("lookup %d;", max(0, r.Intn(14)-4))
		for range r.Intn(4) {
			s += "rule "
			if r.Intn(3) == 0 {
				s += set() + " "
			}
			s += "| " + set() + " |"
			if r.Intn(3) == 0 {
				s += " " + set()
			}
			if r.Intn(3) == 0 && k < 2 {
				s += fmt.Sprintf(" call 0:%d;", k+1)
			} else {
				s += " >" + []string{"", fmt.Sprintf(" %d", r.Intn(8)), fmt.Sprintf(" %d %d", r.Intn(8), r.Intn(8))}[r.Intn(3)] + ";"
			}
		}
	}
	for k, code := range codes {
		s += fmt.Sprintf("char %d %d %d 0=%d;", code, (k*(1+r.Intn(3)))%8, r.Intn(90), r.Intn(40)-20)
	}
	point := func() string {
		return fmt.Sprintf(" %d,%d%s", r.Intn(120)-30, r.Intn(120)-30, []string{"", "", "~"}[r.Intn(3)])
	}
	move := func() string { return fmt.Sprintf(" %d,%d", r.Intn(40)-20, r.Intn(40)-20) }
	for range 8 {
		s += fmt.Sprintf("glyph %d;contour%s%s%s%s;anchor 1 %d,40;", r.Intn(90), point(), point(), point(), point(), r.Intn(40))
		last := " 0,0"
		if r.Intn(3) == 0 {
			s += "hang 1 5,7;"
			last = move()
		}
		for k := range 2 {
			if r.Intn(2) == 0 {
				s += fmt.Sprintf("delta %d 9%s%s%s%s%s%s;", k, move(), move(), move(), move(), move(), last)
			}
		}
		s += []string{"", "program gety 1 round sety 1;", "program axis 0 if push 64 setx 2 else size sety 0 end;"}[r.Intn(3)]
	}
	return parse(t, s)
}

func document(width int, fonts []api.Font, paras ...api.Para) api.Doc {
	d := api.Doc{Width: width, Paras: paras}
	for _, f := range fonts {
		d.Fonts = append(d.Fonts, api.Pin{Name: f.Core.Name, Version: f.Core.Version, Root: f.Core.Root})
	}
	return d
}

func signed(c api.Core) api.Signed {
	signature, _ := sign.Sign("s", 2, 0, wire.Text("core")+wire.Text(font.Encode(c)))
	return api.Signed{Core: c, Sign: signature}
}
