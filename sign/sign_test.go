package sign

import (
	"slices"
	"strconv"
	"testing"

	"abugida/api"
	"abugida/digest"
	"abugida/wire"
)

// link follows the words of the chapter.
func link(seed string, key, chain, number int) string {
	x := digest.Of(wire.Text(seed) + wire.Int(key) + wire.Int(chain))
	for range number {
		x = digest.Of(x)
	}
	return x
}

func slowLeaf(seed string, key int) string {
	all := ""
	for c := range 18 {
		all += link(seed, key, c, 15)
	}
	return digest.Of(all)
}

func slowDigits(msg string) []int {
	var l []int
	sum := 0
	for _, c := range []byte(digest.Of(msg)) {
		l = append(l, int(c/16), int(c%16))
		sum += int(c/16) + int(c%16)
	}
	return append(l, (240-sum)/16, (240-sum)%16)
}

// P4.1
func TestPublic(t *testing.T) {
	for _, n := range []int{0, -1, 17, 1 << 40} {
		if got, e := Public("s", n); e != api.ErrArg || got != "" {
			t.Errorf("Public of %d: %v", n, e)
		}
	}
	for _, n := range []int{1, 3, 16} {
		var l []string
		for i := range n {
			l = append(l, slowLeaf("s", i))
		}
		if got, e := Public("s", n); e != api.OK || got != digest.Root(l) {
			t.Errorf("Public of %d", n)
		}
	}
}

// P4.2
func TestSign(t *testing.T) {
	for _, x := range [][2]int{{0, 0}, {17, 0}, {4, 4}, {4, -1}, {-3, -4}} {
		if got, e := Sign("s", x[0], x[1], "m"); e != api.ErrArg || got != "" {
			t.Errorf("Sign with %v: %v", x, e)
		}
	}
	var leaves []string
	for i := range 5 {
		leaves = append(leaves, slowLeaf("s", i))
	}
	got, e := Sign("s", 5, 3, "a message")
	var links []string
	for c, d := range slowDigits("a message") {
		links = append(links, link("s", 3, c, d))
	}
	if want := wire.Int(3) + wire.Texts(links) + wire.Texts(digest.Proof(leaves, 3)); e != api.OK || got != want {
		t.Error("Sign of a message")
	}
	if got := digits(""); got != [18]int{7: 7, 15: 11, 16: 13, 17: 14} {
		t.Error("digits of the empty message", got)
	}
}

// P4.3, P4.4
func TestCheck(t *testing.T) {
	public, _ := Public("s", 4)
	other, _ := Public("t", 4)
	for i := range 4 {
		sig, _ := Sign("s", 4, i, "m")
		if !Check(public, "m", sig) {
			t.Errorf("the signature %d is refused", i)
		}
		wrong := wire.Int((i+1)%4) + sig[1:]
		for k, x := range [][3]string{{public, "n", sig}, {other, "m", sig}, {public, "m", sig + "\x00"}, {public, "m", sig[1:]}, {public, "m", sig[:len(sig)-1]}, {public, "m", wrong}, {public, "m", ""}, {"", "m", sig}} {
			if Check(x[0], x[1], x[2]) {
				t.Errorf("the wrong signature %d of %d is accepted", k, i)
			}
		}
		for k := range sig {
			bent := sig[:k] + string(sig[k]^1) + sig[k+1:]
			if len(bent) == len(sig) && Check(public, "m", bent) {
				t.Fatalf("with another byte %d", k)
			}
		}
	}
	for n := 1; n <= 16; n++ {
		public, _ := Public("", n)
		if sig, _ := Sign("", n, n-1, ""); !Check(public, "", sig) {
			t.Errorf("the last of %d keys", n)
		}
	}
}

// P4.3: there are 18 strings of 8 bytes each.
func TestCheckShapes(t *testing.T) {
	links := make([]string, 18)
	for c, d := range slowDigits("m") {
		links[c] = link("s", 0, c, d)
	}
	public := digest.Root([]string{slowLeaf("s", 0)})
	signature := func(l []string) string { return wire.Int(0) + wire.Texts(l) + wire.Texts(nil) }
	if !Check(public, "m", signature(links)) {
		t.Error("the links of m")
	}
	joined := append([]string{links[0] + links[1]}, links[2:]...)
	for _, l := range [][]string{links[:17], append(slices.Clone(links), ""), append(joined, ""), nil} {
		if Check(public, "m", signature(l)) {
			t.Errorf("%d strings", len(l))
		}
	}
}

// P4.5
func TestDigitsCross(t *testing.T) {
	var l [][]int
	for i := range 60 {
		d := slowDigits(strconv.Itoa(i))
		if got := digits(strconv.Itoa(i)); !slices.Equal(got[:], d) {
			t.Fatalf("digits of %d", i)
		}
		l = append(l, d)
	}
	for i, a := range l {
		for k, b := range l {
			less := false
			for c := range a {
				less = less || a[c] < b[c]
			}
			if i != k && !less {
				t.Errorf("no digit of %d is less than that of %d", i, k)
			}
		}
	}
}
