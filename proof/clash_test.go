package proof_test

import (
	"bytes"
	"encoding/json"
	"fmt"
	"os"
	"os/exec"
	"path/filepath"
	"slices"
	"strings"
	"testing"

	"postmark/api"
	"postmark/proof"
	"postmark/sponge"
)

// brokenSponge has the sponge's face, but only eight sums, so that two texts with one Sum are found soon.
const brokenSponge = `package sponge

import (
	"postmark/api"
	"postmark/bin"
)

func Perm(s [5]uint64) [5]uint64 { return s }

func Sum(b []byte) api.Hash {
	n := uint64(14695981039346656037)
	for _, c := range b {
		n = (n ^ uint64(c)) * 1099511628211
	}
	return api.Hash{byte((n ^ n>>29) * 1099511628211 >> 61)}
}

func Tag(tag byte, l ...[]byte) api.Hash { return Sum(Text(tag, l...)) }

func Text(tag byte, l ...[]byte) []byte {
	b := []byte{tag}
	for _, x := range l {
		b = bin.Join(b, bin.Lump(x))
	}
	return b
}
`

// isBroken is set where the tests run with the broken sponge.
const isBroken = "POSTMARK_BROKEN_SPONGE"

// withBrokenSponge runs one test of this package with the broken sponge in the sponge's place.
func withBrokenSponge(t *testing.T, name string) {
	t.Helper()
	files, err := filepath.Glob("../sponge/*.go")
	if err != nil || len(files) == 0 {
		t.Fatalf("no sponge to be replaced: %v", err)
	}
	dir := t.TempDir()
	broken := filepath.Join(dir, "broken.go")
	replace := map[string]string{}
	for _, f := range files {
		if strings.HasSuffix(f, "_test.go") {
			continue
		}
		whole, err := filepath.Abs(f)
		if err != nil {
			t.Fatal(err)
		}
		replace[whole] = "" // isn't there
		if len(replace) == 1 {
			replace[whole] = broken
		}
	}
	overlay, err := json.Marshal(map[string]any{"Replace": replace})
	if err != nil {
		t.Fatal(err)
	}
	list := filepath.Join(dir, "overlay.json")
	for f, text := range map[string]string{broken: brokenSponge, list: string(overlay)} {
		if err := os.WriteFile(f, []byte(text), 0o600); err != nil {
			t.Fatal(err)
		}
	}
	c := exec.Command("go", "test", "-count=1", "-vet=off", "-overlay", list, "-run", "^"+name+"$", ".")
	c.Env = append(os.Environ(), isBroken+"=1")
	if out, err := c.CombinedOutput(); err != nil {
		t.Errorf("with a broken sponge: %v\n%s", err, out)
	}
}

// P7.3, P7.4: where the sponge is broken somebody shows two things, and Clash tells by which texts.
func TestClashOfABrokenSponge(t *testing.T) {
	if os.Getenv(isBroken) == "" {
		withBrokenSponge(t, t.Name())
		return
	}
	if h := sponge.Sum(nil); h != (api.Hash{h[0]}) {
		t.Fatal("the sponge isn't broken")
	}
	for _, index := range []api.Hash{{}, filled(0xff), filled(0x5a)} {
		places := map[int]int{}
		all := shown(index)
		for _, p := range all {
			for _, q := range all {
				if place, ok := clash(t, index, p, q); ok {
					places[place]++
				}
			}
		}
		for place := range 4 {
			if places[place] < 50 {
				t.Errorf("index %x: only %d pairs clash at place %d", index[:1], places[place], place)
			}
		}
	}
}

// P7.3: as far down as a Path may go.
func TestClashFarDown(t *testing.T) {
	if os.Getenv(isBroken) == "" {
		withBrokenSponge(t, t.Name())
		return
	}
	index := filled(0x5a)
	far := 0
	for _, place := range []int{0, 1, 100, 200, 252, 253, 254} {
		var all []api.Proof
		for i := range 40 {
			way := slices.Repeat([]api.Hash{{3}}, api.MaxPath-i%2)
			way[place] = api.Hash{byte(i)}
			all = append(all, api.Proof{Path: way, End: api.Here, Item: api.Item{Index: index, Value: api.Hash{byte(i / 3)}}})
		}
		for _, p := range all {
			if at, ok := clash(t, index, all[0], p); ok && at >= api.MaxPath-16 {
				far++
			}
		}
	}
	if far < 20 {
		t.Errorf("only %d pairs clash far down", far)
	}
}

// shown are proofs of all Ends and short Paths for an index, some of them not Right.
func shown(index api.Hash) []api.Proof {
	ends := []api.Proof{{End: api.Nobody}, {End: api.Nobody, Item: api.Item{Value: filled(1)}}, {End: 3, Item: api.Item{Index: index}}}
	for i := range byte(8) {
		ends = append(ends, api.Proof{End: api.Here, Item: api.Item{Index: index, Value: api.Hash{i}}})
	}
	for _, place := range []int{0, 1, 2, 3, 255} {
		x := api.Item{Index: flipped(index, place), Value: api.Hash{1}}
		ends = append(ends, api.Proof{End: api.Other, Item: x}, api.Proof{End: api.Here, Item: x})
	}
	paths := [][]api.Hash{nil}
	for at := 0; len(paths[at]) < 3; at++ {
		for i := range byte(2) {
			paths = append(paths, append(slices.Clone(paths[at]), api.Hash{i}))
		}
	}
	var all []api.Proof
	for _, p := range ends {
		for _, way := range paths {
			all = append(all, api.Proof{Path: way, End: p.End, Item: p.Item})
		}
	}
	return all
}

// clash holds Clash against its words, and tells at which place two texts part, if it is to tell any.
func clash(t *testing.T, index api.Hash, p, q api.Proof) (int, bool) {
	t.Helper()
	name := func() string { return fmt.Sprintf("Clash(%x, %x, %x)", index, p, q) }
	a, b, ok := proof.Clash(index, p, q)
	said := p.End == q.End && (p.End != api.Here || p.Item.Value == q.Item.Value) || p.End != api.Here && q.End != api.Here
	if !proof.Right(index, p) || !proof.Right(index, q) || said || comes(index, p) != comes(index, q) {
		if ok || len(a) > 0 || len(b) > 0 {
			t.Fatalf("%s tells %x, %x, %v", name(), a, b, ok)
		}
		return 0, false
	}
	up, other := texts(index, p), texts(index, q)
	for i := range min(len(up), len(other)) {
		if bytes.Equal(up[i], other[i]) {
			continue
		}
		if !ok || !bytes.Equal(a, up[i]) || !bytes.Equal(b, other[i]) || sponge.Sum(a) != sponge.Sum(b) {
			t.Fatalf("%s tells %x, %x, %v; want %x, %x", name(), a, b, ok, up[i], other[i])
		}
		shownTwice(t, index, p, q)
		return i, true
	}
	t.Fatalf("%s: no two texts are unlike", name())
	return 0, false
}

// shownTwice fails the test unless both are taken under one root and say unlike things, as only a broken sponge lets them.
func shownTwice(t *testing.T, index api.Hash, p, q api.Proof) {
	t.Helper()
	root := comes(index, p)
	v, here, ok := proof.Check(root, index, p)
	w, too, and := proof.Check(root, index, q)
	if !ok || !and || v == w && here == too {
		t.Fatalf("Check of %x and %x: %x, %v, %v and %x, %v, %v", p, q, v, here, ok, w, too, and)
	}
}
