package digest

import (
	"encoding/hex"
	"slices"
	"strconv"
	"strings"
	"testing"
)

func hexOf(s string) string { return hex.EncodeToString([]byte(s)) }

// slowDigest follows the words of the chapter.
func slowDigest(s string) string {
	x, y := 7, 11
	for i := 0; i < len(s); i++ {
		x = (1000003*x + int(s[i]) + 1) % 2147483647
		y = (69069*y + int(s[i]) + 1) % 2147483629
	}
	return string([]byte{byte(x >> 24), byte(x >> 16), byte(x >> 8), byte(x), byte(y >> 24), byte(y >> 16), byte(y >> 8), byte(y)})
}

// slowTree returns all levels of a tree, filled up.
func slowTree(l []string) [][]string {
	level := slices.Clone(l)
	size := 1
	for size < len(l) {
		size *= 2
	}
	for len(level) < size {
		level = append(level, "")
	}
	tree := [][]string{level}
	for len(level) > 1 {
		var next []string
		for i := 0; i < len(level); i += 2 {
			a, b := level[i], level[i+1]
			n := len(a)
			next = append(next, slowDigest("\x01"+string([]byte{byte(n >> 24), byte(n >> 16), byte(n >> 8), byte(n)})+a+b))
		}
		level = next
		tree = append(tree, level)
	}
	return tree
}

func elements(n int) []string {
	var l []string
	for i := range n {
		l = append(l, strings.Repeat("leaf", i%3)+strconv.Itoa(i%7))
	}
	return l
}

// P3.1
func TestDigests(t *testing.T) {
	if got := hexOf(Of("")); got != "000000070000000b" {
		t.Error(got)
	}
	if got := hexOf(Of("\x00")); got != "006acfd6000b97d0" {
		t.Error(got)
	}
	for _, s := range []string{"", "a", "\xff\xff\xff\xff", strings.Repeat("\xff", 3000)} {
		if Of(s) != slowDigest(s) {
			t.Errorf("Of of %q", s)
		}
		if got := Pair(s, "bc"); got != slowDigest("\x01\x00\x00"+string([]byte{byte(len(s) >> 8), byte(len(s))})+s+"bc") {
			t.Errorf("Pair of %q", s)
		}
	}
	if Pair("a", "bc") == Pair("ab", "c") {
		t.Error("Pair does not know where the first string ends")
	}
}

// P3.2, P3.3, P3.5
func TestTrees(t *testing.T) {
	for n := range 40 {
		l := elements(n)
		tree := slowTree(l)
		top := tree[len(tree)-1][0]
		if got := Root(l); got != slowDigest("\x02"+string([]byte{byte(len(tree) - 1)})+top) {
			t.Fatalf("Root of %d elements", n)
		}
		for i := -2; i < n+3; i++ {
			proof := Proof(l, i)
			if i < 0 || i >= n {
				if proof != nil {
					t.Fatalf("Proof of %d of %d", i, n)
				}
				continue
			}
			var want []string
			for k := 0; k < len(tree)-1; k++ {
				want = append(want, tree[k][i>>k^1])
			}
			if !slices.Equal(proof, want) {
				t.Fatalf("Proof of %d of %d: %q", i, n, proof)
			}
			if !Verify(Root(l), l[i], i, proof) {
				t.Fatalf("%d of %d is not proved", i, n)
			}
		}
	}
	if Root(nil) != Of("\x02\x00") {
		t.Error("Root of nothing")
	}
	l := elements(1<<16 + 1)
	if proof := Proof(l, 1<<16); len(proof) != 17 || !Verify(Root(l), l[1<<16], 1<<16, proof) {
		t.Error("a long list")
	}
}

// P3.4
func TestVerify(t *testing.T) {
	l := []string{"a", "b", "c"}
	root, proof := Root(l), Proof(l, 2)
	if !slices.Equal(proof, []string{"", Pair("a", "b")}) || !slices.Equal(Proof(l, 0), []string{"b", Pair("c", "")}) {
		t.Error("proofs of the example")
	}
	for _, x := range []struct {
		root, leaf string
		i          int
		proof      []string
		want       bool
	}{
		{root, "c", 2, proof, true}, {root, "c", 6, proof, false}, {root, "c", -2, proof, false}, {root, "c", 2, proof[:1], false},
		{root, "c", 3, proof, false}, {root, "b", 2, proof, false}, {root + "x", "c", 2, proof, false}, {root[:7], "c", 2, proof, false}, {"", "c", 2, proof, false},
		{root, "c", 4, append(slices.Clone(proof), ""), false}, {root, "", 3, []string{"c", Pair("a", "b")}, true},
		{Root([]string{"x"}), "x", 0, nil, true}, {Root([]string{"x"}), "x", 1, nil, false},
	} {
		if Verify(x.root, x.leaf, x.i, x.proof) != x.want {
			t.Errorf("Verify of %q at %d with %d elements", x.leaf, x.i, len(x.proof))
		}
	}
	x, long := "leaf", make([]string, 20)
	for _, p := range long {
		x = Pair(x, p)
	}
	if !Verify(slowDigest("\x02\x14"+x), "leaf", 0, long) {
		t.Error("20 elements are refused")
	}
	if x = Pair(x, ""); Verify(slowDigest("\x02\x15"+x), "leaf", 0, append(long, "")) {
		t.Error("21 elements are accepted")
	}
}

// P3.6
func TestOtherBytes(t *testing.T) {
	s := []byte("a string of some bytes")
	for i := range s {
		before := Of(string(s))
		was := s[i]
		for c := range 256 {
			if s[i] = byte(c); byte(c) != was && Of(string(s)) == before {
				t.Fatalf("byte %d as %d", i, c)
			}
		}
		s[i] = was
	}
	l := elements(4)
	if Verify(Root(l), Pair(l[0], l[1]), 0, []string{Pair(l[2], l[3])}) {
		t.Error("a node is accepted as a leaf")
	}
}

// P3.7
func TestFilled(t *testing.T) {
	l := elements(5)
	for n := 5; n < 8; n++ {
		if l = append(l, ""); Root(l) != Root(elements(5)) {
			t.Errorf("with %d elements", n+1)
		}
	}
	if Root(append(l, "")) == Root(l) {
		t.Error("with 9 elements")
	}
}
