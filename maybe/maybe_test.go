package maybe

import (
	"fmt"
	"math/rand"
	"slices"
	"strings"
	"testing"

	"abugida/api"
	"abugida/closure"
	"abugida/cluster"
	"abugida/known"
	"abugida/parts"
	"abugida/patch"
	"abugida/shape"
	"abugida/source"
)

func parse(t *testing.T, s string) api.Font {
	t.Helper()
	f, n, e := source.Parse(strings.ReplaceAll(s, ";", "\n"))
	if e != api.OK {
		t.Fatal(n, e, s)
	}
	return parts.Rooted(f)
}

// with returns what is known of a font with some of its lookups.
func with(t *testing.T, f api.Font, lookups ...int) *known.Known {
	t.Helper()
	k, e := known.New(f.Core)
	if e != api.OK {
		t.Fatal(e)
	}
	for _, n := range lookups {
		take(t, f, k, n)
	}
	return k
}

func take(t *testing.T, f api.Font, k *known.Known, n int) {
	t.Helper()
	p, _ := patch.Make(f, api.Key{Kind: api.KindLookup, N: n}, api.Key{})
	if e := k.Take(p); e != api.OK {
		t.Fatal(e)
	}
}

const glyphs5 = "glyph 1;glyph 1;glyph 1;glyph 1;glyph 1;"

func items(l ...[2]int) (out []api.Item) {
	for _, x := range l {
		out = append(out, api.Item{Glyph: x[0], Cluster: x[1]})
	}
	return out
}

// P27.1, P27.2
func TestExamples(t *testing.T) {
	f := parse(t, "font a 1;lookup 0;rule | {1} | > 2;lookup 0;rule | {2} | {3} > 4;char 65 1 1;char 66 2 1;char 67 3 1;char 68 4 1;"+glyphs5)
	for _, x := range []struct {
		lookups []int
		text    string
		items   []api.Item
		certain []bool
		misses  []int
	}{
		{[]int{0, 1}, "ACB", items([2]int{4, 0}, [2]int{3, 1}, [2]int{2, 2}), []bool{true, true, true}, nil},
		{[]int{0}, "ACBD", items([2]int{3, 1}, [2]int{4, 3}), []bool{false, true, false, true}, []int{1}},
		{[]int{1}, "ACBC", items([2]int{3, 1}, [2]int{4, 2}, [2]int{3, 3}), []bool{false, true, true, true}, []int{0}},
		{[]int{1}, "BAC", items([2]int{3, 2}), []bool{false, false, true}, []int{0}},
		{nil, "CD", items([2]int{3, 0}, [2]int{4, 1}), []bool{true, true}, nil},
		{nil, "AB", nil, []bool{false, false}, []int{0, 1}},
		{nil, "", nil, nil, nil},
	} {
		k := with(t, f, x.lookups...)
		got, certain := Run(k, x.text, 0)
		if !slices.Equal(got, x.items) || !slices.Equal(certain, x.certain) || !slices.Equal(Misses(k, x.text, 0), x.misses) {
			t.Errorf("%v, %q: %v %v %v", x.lookups, x.text, got, certain, Misses(k, x.text, 0))
		}
	}
}

// P27.1: what a gap says, and a no on one side that is stronger than a perhaps on the other one.
func TestGaps(t *testing.T) {
	f := parse(t, "font a 1;lookup 0;rule | {1} | > 0;lookup 5;rule {3} | {2} | > 4;lookup 6;rule {3} {3} | {2} | {3} > 4;lookup 7;rule | {2} | {3} {3} > 4;rule {4} | {3} | > 0;char 65 1 1;char 66 2 1;char 67 3 1;char 68 4 1;"+glyphs5)
	k := with(t, f, 1, 2, 3)
	for _, x := range []struct {
		text     string
		features int
		glyphs   string // of each cluster, ? for an uncertain one
	}{
		{"AB", 32, "??"}, {"CAB", 32, "3??"}, {"DCB", 32, "434"}, {"B", 32, "2"}, {"AB", 0, "?2"}, {"ADB", 32, "?42"}, {"BA", 32, "2?"},
		{"CCBC", 64, "3343"}, {"ACBC", 64, "?3?3"}, {"ACBD", 64, "?324"}, {"ADBC", 64, "?423"}, {"CACBC", 64, "3?3?3"}, {"CBC", 64, "323"}, {"CCBA", 64, "33??"}, {"DCBA", 64, "432?"}, {"CDBA", 64, "342?"},
		{"BCC", 128, "403"}, {"BCA", 128, "???"}, {"BDA", 128, "24?"}, {"BC", 128, "23"}, {"DC", 128, "40"}, {"AC", 128, "??"}, {"BCAC", 128, "????"}, {"BCCA", 128, "403?"},
	} {
		got, certain := Run(k, x.text, x.features)
		s := ""
		for c, is := range certain {
			if is {
				for _, g := range shape.Cluster(got, c) {
					s += fmt.Sprint(g)
				}
			} else {
				s += "?"
			}
		}
		if s != x.glyphs {
			t.Errorf("%q with %d: %s, not %s", x.text, x.features, s, x.glyphs)
		}
	}
}

// P27.1: calls of lookups that are missing, and the rest of a cluster that becomes uncertain.
func TestCalls(t *testing.T) {
	f := parse(t, "font a 1;lookup 0;rule | {1} {2} | call 0:1 1:2;rule | {4} {3} | call 1:2;lookup 9;rule | {1} | > 3 1;lookup 9;rule | {2} | > 4;char 65 1 1;char 68 4 1;char 97 2 1;char 98 3 1;"+glyphs5)
	for _, x := range []struct {
		lookups []int
		text    string
		items   []api.Item
		certain []bool
		misses  []int
	}{
		{[]int{0, 1, 2}, "AaD", items([2]int{3, 0}, [2]int{1, 0}, [2]int{4, 0}, [2]int{4, 1})[:0], []bool{true, true}, nil},
		{[]int{0, 1}, "AaD", items([2]int{3, 0}, [2]int{1, 0}, [2]int{2, 0}, [2]int{4, 1}), []bool{true, true}, nil},
		{[]int{0, 2}, "DAaaD", items([2]int{4, 0}, [2]int{4, 2}), []bool{true, false, true}, []int{1}},
		{[]int{0, 2}, "DbAbD", items([2]int{4, 0}, [2]int{3, 0}, [2]int{1, 1}, [2]int{3, 1}, [2]int{4, 2}), []bool{true, true, true}, nil},
		{[]int{0}, "DbA", items([2]int{4, 0}, [2]int{3, 0}, [2]int{1, 1}), []bool{true, true}, nil},
	} {
		k := with(t, f, x.lookups...)
		got, certain := Run(k, x.text, 0)
		if len(x.lookups) == 3 {
			x.items, _ = shape.Run(f, x.text, 0)
		}
		if !slices.Equal(got, x.items) || !slices.Equal(certain, x.certain) || !slices.Equal(Misses(k, x.text, 0), x.misses) {
			t.Errorf("%v, %q: %v %v %v", x.lookups, x.text, got, certain, Misses(k, x.text, 0))
		}
	}
}

// P27.1: where a rule with calls ends, and where the lookup goes on.
func TestEnds(t *testing.T) {
	for k, s := range []string{
		"lookup 0;rule | {1} {2} | call 0:1 1:2;lookup 9;rule | {1} | >;lookup 9;rule | {2} | > 3;rule | {3} | > 4;",
		"lookup 0;rule | {1} | call 0:1 0:2;lookup 9;rule | {1} | > 2 3;lookup 9;rule | {2} | > 4 4 4;",
		"lookup 0;rule | {1} | call 0:1;rule | {3} | > 4;lookup 9;rule | {1} {2} {3} | > 4 1;",
		"lookup 0;rule | {1} | call 0:1;rule | {3} | > 4;lookup 9;rule | {1} {2} | > 3;",
		"lookup 0;rule | {1} {2} | call 0:1;rule | {3} | > 1;lookup 9;rule | {1} | > 1 1 1;",
		"lookup 0;rule | {1} {2} {3} | call 0:1;rule | {3} | > 1;lookup 9;rule | {1} {2} | > 4;",
		"lookup 0;rule | {1} {2} | call 0:1;rule | {3} | > 1;lookup 9;rule | {1} {2} | > 4 3;",
		"lookup 0;rule | {1} {2} | call 0:1 1:2 0:3;lookup 9;rule | {1} | >;lookup 9;rule | {3} | > 4;lookup 9;rule | {2} | > 1;",
	} {
		f := parse(t, "font a 1;"+s+"char 65 1 1;char 97 2 1;char 98 3 1;"+glyphs5)
		var all []int
		for n := range f.Lookups {
			all = append(all, n)
		}
		for _, text := range []string{"Aab", "Aabbb", "AabAab", "AAabb", "aAab", "A", "Aa", "Aaab"} {
			want, e := shape.Run(f, text, 0)
			got, certain := Run(with(t, f, all...), text, 0)
			if e != api.OK || !slices.Equal(got, want) || slices.Contains(certain, false) {
				t.Errorf("font %d, %q: %v, not %v", k, text, got, want)
			}
		}
	}
}

// removing are lookups of which the first one calls the second one, and this one the third one, which removes three items.
const removing = "lookup 0;rule {0} | {0} | {0} call 0:1;lookup 0;rule {0} | {0} | {0} call 0:2;lookup 0;rule {0} | {0} {0} {0} | {0} >;"

// P1, P27.1, P27.2: the end of a rule that moves before the first item.
func TestEndsBeforeTheFirstItem(t *testing.T) {
	f := parse(t, "font a 1;"+removing+"char 64 0 8;char 96 0 8;glyph 8;glyph 8;")
	all := []bool{true, true, true}
	for _, x := range []struct {
		lookups []int
		text    string
		items   []api.Item
		certain []bool
		misses  []int
	}{
		{[]int{0, 1, 2}, "@@``@", items([2]int{0, 0}, [2]int{0, 2}), all, nil},
		{[]int{0, 1, 2}, "@@`@", items([2]int{0, 0}, [2]int{0, 1}, [2]int{0, 1}, [2]int{0, 2}), all, nil},
		{[]int{0, 1, 2}, "@@``@``@", items([2]int{0, 0}, [2]int{0, 3}), []bool{true, true, true, true}, nil},
		{[]int{0, 1}, "@@``@", nil, make([]bool, 3), []int{2}}, {[]int{0, 2}, "@@``@", nil, make([]bool, 3), []int{1}}, {[]int{1, 2}, "@@``@", nil, make([]bool, 3), []int{0}},
	} {
		k := with(t, f, x.lookups...)
		got, certain := Run(k, x.text, 0)
		if !slices.Equal(got, x.items) || !slices.Equal(certain, x.certain) || !slices.Equal(Misses(k, x.text, 0), x.misses) {
			t.Errorf("%v, %q: %v %v %v", x.lookups, x.text, got, certain, Misses(k, x.text, 0))
		}
	}
	// The lookup goes on at the first item, which a rule matches only now; the end is 0 in the first font, and -1 in the second one.
	for k, x := range []struct {
		ahead, out string
		items      []api.Item
	}{
		{"{2} {0}", " 2", items([2]int{4, 0}, [2]int{2, 1}, [2]int{0, 2})},
		{"{0}", "", items([2]int{4, 0}, [2]int{0, 2})},
	} {
		f := parse(t, "font a 1;lookup 0;rule | {3} | "+x.ahead+" > 4;rule | {1} | call 0:1;lookup 9;rule | {1} | call 0:2;lookup 9;rule | {1} {1} {1} | >"+x.out+";char 65 3 1;char 66 1 1;char 67 0 1;char 97 1 1;"+glyphs5)
		if got, certain := Run(with(t, f, 0, 1, 2), "ABaaC", 0); !slices.Equal(got, x.items) || !slices.Equal(certain, all) {
			t.Errorf("font %d: %v %v", k, got, certain)
		}
	}
}

// removingFont returns a right font whose lookups often call one another, and often remove items, with 6 lookups and 3 glyphs.
func removingFont(t *testing.T, r *rand.Rand) api.Font {
	set := func() string { return []string{"{0,1,2}", "{0,1}", "{1,2}", "{0}", "{1}", "{2}"}[r.Intn(6)] }
	s := "font a 1;"
	for k := range 6 {
		s += fmt.Sprintf("lookup %d;", max(0, r.Intn(14)-4))
		for range 1 + r.Intn(3) {
			in := set() + strings.Repeat(" "+set(), r.Intn(3))
			act := " >" + []string{"", "", " 1", " 0 2"}[r.Intn(4)]
			if k < 5 && r.Intn(3) > 0 {
				in, act = set(), fmt.Sprintf(" call 0:%d 0:%d", k+1+r.Intn(5-k), k+1+r.Intn(5-k))
			}
			s += "rule | " + in + " |" + []string{"", "", " " + set()}[r.Intn(3)] + act + ";"
		}
	}
	for k, code := range []int{64, 65, 66, 97, 98} {
		s += fmt.Sprintf("char %d %d 1;", code, (k+r.Intn(2))%3)
	}
	return parse(t, s+"glyph 1;glyph 1;glyph 1;")
}

// P1, P27.4, P27.6: ends that move back.
func TestLookupsThatRemove(t *testing.T) {
	r := rand.New(rand.NewSource(43))
	some := []byte{64, 65, 66, 97, 98, 97, 98, 97, 98}
	for range 4000 {
		f := removingFont(t, r)
		s := make([]byte, r.Intn(14))
		for i := range s {
			s[i] = some[r.Intn(len(some))]
		}
		text, features := string(s), r.Intn(1024)
		want, e := shape.Run(f, text, features)
		if e != api.OK && e != api.ErrWork && e != api.ErrMany {
			t.Fatalf("%v: %v", s, e)
		}
		order := r.Perm(6)
		k := with(t, f, order[:3]...)
		if got, certain := Run(k, text, features); e == api.OK && slices.Contains(certain, false) != (len(Misses(k, text, features)) > 0) {
			t.Fatalf("%v with %v: %v, %v", s, order[:3], got, certain)
		}
		k = with(t, f, order...)
		if got, certain := Run(k, text, features); !slices.Equal(got, want) || e == api.OK == slices.Contains(certain, false) && len(s) > 0 {
			t.Fatalf("%v with all lookups: %v, not %v", s, got, want)
		}
	}
}

// P27.1, P27.2
func TestLimits(t *testing.T) {
	var none *known.Known
	for _, k := range []*known.Known{none, {}} {
		for _, text := range []string{"A", strings.Repeat("A", 121)} {
			if got, certain := Run(k, text, 0); got != nil || certain != nil || Misses(k, text, 0) != nil {
				t.Error("a zero Known")
			}
		}
	}
	grow := parse(t, "font a 1;lookup 0;rule | {1} | > 1 1;lookup 0;rule | {2} | > 1;char 65 1 1;char 66 2 1;"+glyphs5)
	slow := "font a 1;"
	for range 7 {
		slow += "lookup 0;" + strings.Repeat("rule | {4} | > 1;", 8)
	}
	late := parse(t, slow+"lookup 0;rule | {2} | > 1;char 65 1 1;char 66 2 1;"+glyphs5)
	ten := "font a 1;"
	for range 10 {
		ten += "lookup 0;" + strings.Repeat("rule | {4} | > 1;", 8)
	}
	all := []int{0, 1, 2, 3, 4, 5, 6, 7, 8, 9}
	exact := parse(t, ten+"char 65 1 1;"+glyphs5)
	a := strings.Repeat("A", 130)
	for i, x := range []struct {
		f       api.Font
		lookups []int
		text    string
		ok      bool
	}{
		{grow, []int{0, 1}, a[:100], true}, {grow, []int{0, 1}, a[:101], false}, {grow, []int{1}, a[:120], true}, {grow, []int{0, 1}, a[:121], false}, {grow, nil, a[:121], false},
		{exact, all, a[:75], true}, {exact, all, a[:76], false}, {late, []int{0, 1, 2, 3, 4, 5, 6}, a[:107], true}, {late, []int{0, 1, 2, 3, 4, 5, 6}, a[:108], false}, {late, []int{0, 1, 2, 3, 4, 5}, a[:108], true}, {late, []int{0, 1, 2, 3, 4, 5, 6}, "B" + a[:107], false},
	} {
		k := with(t, x.f, x.lookups...)
		got, certain := Run(k, x.text, 0)
		anything := slices.Contains(certain, true) || Misses(k, x.text, 0) != nil
		if anything != x.ok || !x.ok && got != nil || len(certain) != len(x.text) {
			t.Errorf("call %d: %d items, %v", i, len(got), certain)
		}
	}
}

// randomFont returns a right font with 5 lookups and 10 glyphs.
func randomFont(t *testing.T, r *rand.Rand) api.Font {
	set := func() string {
		a := r.Intn(7)
		return fmt.Sprintf("{%d,%d}", a, a+1+r.Intn(3))
	}
	s := "font a 1;"
	for k := range 5 {
		s += fmt.Sprintf("lookup %d;", max(0, r.Intn(14)-4))
		for range r.Intn(4) {
			s += "rule "
			for range r.Intn(3) {
				s += set() + " "
			}
			s += "| " + set()
			for range r.Intn(2) {
				s += " " + set()
			}
			s += " |"
			for range r.Intn(3) {
				s += " " + set()
			}
			if r.Intn(3) == 0 && k < 4 {
				s += fmt.Sprintf(" call 0:%d;", k+1+r.Intn(4-k))
			} else {
				s += " >" + []string{"", fmt.Sprintf(" %d", r.Intn(10)), fmt.Sprintf(" %d %d", r.Intn(10), r.Intn(10))}[r.Intn(3)] + ";"
			}
		}
	}
	for k, code := range []int{64, 65, 66, 97, 98, 104, 105, 128} {
		s += fmt.Sprintf("char %d %d 1;", code, 1+(k*(1+r.Intn(3)))%9)
	}
	return parse(t, s+glyphs5+glyphs5)
}

// P27.3, P27.4, P27.5, P27.6
func TestWhatIsCertainIsRight(t *testing.T) {
	r := rand.New(rand.NewSource(27))
	some := []byte{64, 65, 66, 97, 98, 104, 105, 128, 240, 32, 10}
	certainOnes, uncertainOnes := 0, 0
	for range 2500 {
		f := randomFont(t, r)
		s := make([]byte, r.Intn(12))
		for i := range s {
			s[i] = some[r.Intn(len(some))]
		}
		text, features := string(s), r.Intn(1024)
		whole, e := shape.Run(f, text, features)
		if e != api.OK {
			t.Fatal(e)
		}
		order := r.Perm(5)
		k := with(t, f)
		var before []bool
		for n := range 6 {
			got, certain := Run(k, text, features)
			misses := Misses(k, text, features)
			if len(certain) != len(cluster.Split(text)) {
				t.Fatal("how many clusters")
			}
			for c, is := range certain {
				if is && !slices.Equal(shape.Cluster(got, c), shape.Cluster(whole, c)) {
					t.Fatalf("the cluster %d of %v with %v: %v, not %v", c, s, order[:n], got, whole)
				}
				if !is && len(shape.Cluster(got, c)) > 0 || before != nil && before[c] && !is {
					t.Fatalf("the cluster %d of %v with %v", c, s, order[:n])
				}
				if is {
					certainOnes++
				} else {
					uncertainOnes++
				}
			}
			if slices.Contains(certain, false) != (len(misses) > 0) {
				t.Fatalf("%v misses %v", s, misses)
			}
			for _, m := range misses {
				if slices.Contains(order[:n], m) {
					t.Fatalf("the lookup %d is not missing", m)
				}
			}
			if n == 5 {
				if slices.Contains(certain, false) || !slices.Equal(got, whole) {
					t.Fatalf("with all lookups %v", certain)
				}
				break
			}
			before = certain
			take(t, f, k, order[n])
		}
		q := api.Request{Features: features, Sizes: [2]int{4, 32}}
		for _, c := range s {
			q.Chars = append(q.Chars, int(c))
		}
		slices.Sort(q.Chars)
		q.Chars = slices.Compact(q.Chars)
		k = with(t, f)
		for _, key := range closure.Need(f, q) {
			if key.Kind == api.KindLookup {
				take(t, f, k, key.N)
			}
		}
		got, certain := Run(k, text, features)
		if slices.Contains(certain, false) || !slices.Equal(got, whole) {
			t.Fatalf("%v with all that is needed: %v", s, certain)
		}
	}
	if certainOnes < 5000 || uncertainOnes < 5000 {
		t.Error("too few", certainOnes, uncertainOnes)
	}
}

// P27.5
func TestLookupsThatCannotBegin(t *testing.T) {
	f := parse(t, "font a 1;lookup 0;rule | {4} | > 0;lookup 0;rule | {1} | > 2;char 65 1 1;char 68 4 1;"+glyphs5)
	for _, text := range []string{"A", "AAA", "BA"} {
		a, certain := Run(with(t, f, 1), text, 0)
		b, _ := Run(with(t, f, 0, 1), text, 0)
		if !slices.Equal(a, b) || slices.Contains(certain, false) {
			t.Errorf("%q: %v and %v", text, a, b)
		}
	}
	if _, certain := Run(with(t, f, 1), "AD", 0); certain[1] || !certain[0] {
		t.Error("a lookup that can begin", certain)
	}
}
