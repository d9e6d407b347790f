package proof_test

import (
	"bytes"
	"encoding/hex"
	"fmt"
	"math"
	"slices"
	"testing"

	"postmark/api"
	"postmark/bin"
	"postmark/proof"
	"postmark/sponge"
	"postmark/tree"
)

const bits = 256

// filled is a hash of one byte, again and again.
func filled(c byte) api.Hash {
	return api.Hash(bytes.Repeat([]byte{c}, 32))
}

// flipped is h with one bit turned over.
func flipped(h api.Hash, place int) api.Hash {
	h[place/8] ^= 0x80 >> (place % 8)
	return h
}

// bit is tree.Bit by itself: there are no bits but the 256.
func bit(h api.Hash, place int) int {
	if place >= bits || h[place/8]&(0x80>>(place%8)) == 0 {
		return 0
	}
	return 1
}

// item has an Index and a Value of which only the first bytes are told.
func item(first, value byte) api.Item {
	var x api.Item
	x.Index[0], x.Value[0] = first, value
	return x
}

// names are the items of n names.
func names(n int) []api.Item {
	var l []api.Item
	for i := range n {
		l = append(l, tree.Item(api.Entry{Name: fmt.Sprint("name", i), Version: i + 1, Key: uint64(7*i + 1)}))
	}
	return l
}

// path is n hashes that are all unlike.
func path(n int) []api.Hash {
	var l []api.Hash
	for i := range n {
		l = append(l, sponge.Sum(bin.Num(uint64(i))))
	}
	return l
}

// equal takes no Path and an empty one as the same.
func equal(p, q api.Proof) bool {
	return slices.Equal(p.Path, q.Path) && p.End == q.End && p.Item == q.Item
}

// last is the set of a list: its items in any order, of each Index the last one.
func last(l []api.Item) []api.Item {
	var out []api.Item
	for i, x := range l {
		if !slices.ContainsFunc(l[i+1:], func(y api.Item) bool { return y.Index == x.Index }) {
			out = append(out, x)
		}
	}
	return out
}

// side is what of a list has a bit at a place.
func side(l []api.Item, place, want int) []api.Item {
	var out []api.Item
	for _, x := range l {
		if bit(x.Index, place) == want {
			out = append(out, x)
		}
	}
	return out
}

// root is what a set of items that are alike ahead of a place comes to from there on, by chapter 6's words.
func root(set []api.Item, place int) api.Hash {
	if len(set) == 0 {
		return sponge.Tag('z')
	}
	if len(set) == 1 {
		return sponge.Tag('l', set[0].Index[:], set[0].Value[:])
	}
	l, r := root(side(set, place, 0), place+1), root(side(set, place, 1), place+1)
	return sponge.Tag('n', l[:], r[:])
}

// made is what Make is to answer, by its words.
func made(l []api.Item, index api.Hash) api.Proof {
	var p api.Proof
	set := last(l)
	for place := 0; len(set) > 1; place++ {
		p.Path = append(p.Path, root(side(set, place, 1-bit(index, place)), place+1))
		set = side(set, place, bit(index, place))
	}
	switch {
	case len(set) == 0:
		p.End = api.Nobody
	case set[0].Index == index:
		p.End, p.Item = api.Here, set[0]
	default:
		p.End, p.Item = api.Other, set[0]
	}
	return p
}

// texts are those that a proof's way up is made of, the root's first.
func texts(index api.Hash, p api.Proof) [][]byte {
	l := [][]byte{sponge.Text('l', p.Item.Index[:], p.Item.Value[:])}
	if p.End == api.Nobody {
		l[0] = sponge.Text('z')
	}
	for place := len(p.Path) - 1; place >= 0; place-- {
		h, n := sponge.Sum(l[0]), p.Path[place]
		if bit(index, place) == 1 {
			h, n = n, h
		}
		l = slices.Insert(l, 0, sponge.Text('n', h[:], n[:]))
	}
	return l
}

// comes is what a proof comes to, whether it is Right or not.
func comes(index api.Hash, p api.Proof) api.Hash {
	return sponge.Sum(texts(index, p)[0])
}

// taken fails the test unless Check takes p for what it says.
func taken(t *testing.T, name string, root, index api.Hash, p api.Proof) {
	t.Helper()
	var want api.Hash
	if p.End == api.Here {
		want = p.Item.Value
	}
	if v, here, ok := proof.Check(root, index, p); v != want || here != (p.End == api.Here) || !ok {
		t.Errorf("%s: Check tells %x, %v, %v", name, v, here, ok)
	}
}

// refused fails the test unless Check refuses p, with nothing beside it.
func refused(t *testing.T, name string, root, index api.Hash, p api.Proof) {
	t.Helper()
	if v, here, ok := proof.Check(root, index, p); v != (api.Hash{}) || here || ok {
		t.Errorf("%s: Check tells %x, %v, %v", name, v, here, ok)
	}
}

// lists are of all kinds: of few, of many, of items of one Index, of items that part late.
func lists() [][]api.Item {
	a, b, c, d := item(0x00, 1), item(0x40, 2), item(0x60, 3), item(0x80, 4)
	l := [][]api.Item{nil, {}, {{}}, {a}, {d}, {d, d}, {a, d}, {d, a}, {b, c}, {d, c, b, a}, {item(0x40, 9), a, item(0x40, 8), c, b}}
	for _, place := range []int{0, 1, 7, 8, 9, 127, 254, 255} {
		x := api.Item{Index: filled(0x55), Value: filled(1)}
		y := api.Item{Index: flipped(x.Index, place)}
		l = append(l, []api.Item{x, y}, []api.Item{y, {Index: filled(0xaa)}, x})
	}
	for _, n := range []int{2, 3, 10, 60} {
		many := names(n)
		l = append(l, many)
		newer := slices.Clone(many)
		for i := range newer {
			newer[i].Value = filled(byte(i))
		}
		slices.Reverse(newer)
		l = append(l, append(newer, many[:n/2]...))
	}
	return l
}

// indexes are places to ask a list for: those that it has, those that are nearly there, and others.
func indexes(l []api.Item) []api.Hash {
	out := []api.Hash{{}, filled(0xff), filled(0x55), tree.Index("ann"), tree.Index("name1")}
	for _, x := range l[:min(len(l), 12)] {
		out = append(out, x.Index)
		for _, place := range []int{0, 1, 2, 5, 8, 126, 127, 128, 254, 255} {
			out = append(out, flipped(x.Index, place))
		}
	}
	return out
}

// P7.1, P7.3: proofs that were worked out apart from the program, by the chapters' words alone.
func TestFixedProofs(t *testing.T) {
	zero, one := api.Hash{}, api.Hash{31: 1}
	deep := []api.Item{{Index: zero, Value: one}, {Index: one, Value: zero}}
	for i, x := range []struct {
		l     []api.Item
		index api.Hash
		long  int
		end   int
		want  string
	}{
		{nil, tree.Index("name0"), 0, api.Nobody, "748df9904fd7cd1f077097ad408beb2cb6a1acf68fc73493f92251585d6fb963"},
		{names(1), tree.Index("name0"), 0, api.Here, "2af81f0f9341d4b947ea5a0fd6480d1b1715c6527fffbc3875c766b8a7523b62"},
		{names(1), tree.Index("ann"), 0, api.Other, "2b7a0c20f59c2fd8d021b0bf02f34ecae0e7a49f0f2e1d9c09f18a4f0bbe60b4"},
		{names(2), tree.Index("name0"), 1, api.Here, "15bb1336ab8170b68cd15eef2aceedba4338064355431923857a0b77f148ad15"},
		{names(2), tree.Index("name7"), 1, api.Other, "79a793440788d34f3f777a47cc423012af55ac227d4cb78fc13e9317c608c93d"},
		{names(3), tree.Index("name0"), 2, api.Here, "b41c1bce434f8aa67fde5e74409f065e4dc8c124fd0737a6527e1322f3c2e1af"},
		{names(3), tree.Index(""), 2, api.Other, "18dfc44ee63d2ca60d5c1214398ebe106258f64aacdbbd91483a219d40e8d64f"},
		{names(10), tree.Index("name0"), 8, api.Here, "3054168d60f0cd55f7b9d89a1bb617c91c4a2784c2ffc81e42eecbd5636bb105"},
		{names(10), tree.Index(""), 5, api.Nobody, "938ed984659ebcf51cfea9c0fe2c92e0f15a0f3891413d542c82f9ee1b70f520"},
		{names(100), tree.Index("name99"), 10, api.Here, "0550459843166c4db7ef941f199682997f14876edf646d57abdae1323d4cf2d4"},
		{names(100), tree.Index("ann"), 6, api.Nobody, "4c78de6ae17b0c4882778913699c0a2d0e7178393693bf3dec29fbf2b68bd8c6"},
		{deep, zero, 256, api.Here, "2547cc490b8ba8b9e8f357b1e124d834c34b638d6609d985b5a584612fbfa4db"},
		{deep, one, 256, api.Here, "5faa69b574f27584352771075ddebf92c663f3ab7135f9f8fd93adc437c644b2"},
		{deep, flipped(zero, 0), 1, api.Nobody, "164c3f660b78965a3d8c18318164f1cc3e709d916eec73ffde374c1fd3d75819"},
	} {
		p := proof.Make(x.l, x.index)
		h := sponge.Sum(proof.Put(p))
		if got := hex.EncodeToString(h[:]); len(p.Path) != x.long || p.End != x.end || got != x.want {
			t.Errorf("proof %d: Path of %d, End %d, %s; want %d, %d, %s", i, len(p.Path), p.End, got, x.long, x.end, x.want)
		}
	}
}

// P7.1: no Path of fewer than two items, one hash a level of more.
func TestMakeOfFew(t *testing.T) {
	a, b, d := item(0x00, 1), item(0x40, 2), item(0x80, 4)
	none, leaf, node := tree.Empty(), tree.Leaf, tree.Node
	for i, x := range []struct {
		l     []api.Item
		index api.Hash
		want  api.Proof
	}{
		{nil, a.Index, api.Proof{End: api.Nobody}},
		{[]api.Item{}, filled(0xff), api.Proof{End: api.Nobody}},
		{[]api.Item{{}}, api.Hash{}, api.Proof{End: api.Here}},
		{[]api.Item{d}, d.Index, api.Proof{End: api.Here, Item: d}},
		{[]api.Item{d}, a.Index, api.Proof{End: api.Other, Item: d}},
		{[]api.Item{d}, flipped(d.Index, 255), api.Proof{End: api.Other, Item: d}},
		{[]api.Item{item(0x80, 9), d}, d.Index, api.Proof{End: api.Here, Item: d}},
		{[]api.Item{d, item(0x80, 9)}, d.Index, api.Proof{End: api.Here, Item: item(0x80, 9)}},
		{[]api.Item{a, d}, a.Index, api.Proof{Path: []api.Hash{leaf(d)}, End: api.Here, Item: a}},
		{[]api.Item{a, d}, d.Index, api.Proof{Path: []api.Hash{leaf(a)}, End: api.Here, Item: d}},
		{[]api.Item{d, a}, b.Index, api.Proof{Path: []api.Hash{leaf(d)}, End: api.Other, Item: a}},
		{[]api.Item{b, a}, d.Index, api.Proof{Path: []api.Hash{node(leaf(a), leaf(b))}, End: api.Nobody}},
		{[]api.Item{b, a}, b.Index, api.Proof{Path: []api.Hash{none, leaf(a)}, End: api.Here, Item: b}},
		{[]api.Item{b, d, a}, item(0xc0, 0).Index, api.Proof{Path: []api.Hash{node(leaf(a), leaf(b))}, End: api.Other, Item: d}},
		{[]api.Item{b, d, a}, item(0x20, 0).Index, api.Proof{Path: []api.Hash{leaf(d), leaf(b)}, End: api.Other, Item: a}},
	} {
		if got := proof.Make(x.l, x.index); !equal(got, x.want) {
			t.Errorf("Make %d: %x, want %x", i, got, x.want)
		}
	}
}

// P7.1: of two items that part at any place the way goes as far as both go, or to where index leaves them.
func TestMakeAtEachPlace(t *testing.T) {
	none := tree.Empty()
	for place := range bits {
		x := api.Item{Index: filled(0x69), Value: filled(1)}
		y := api.Item{Index: flipped(x.Index, place), Value: filled(2)}
		both := []api.Item{y, x}
		way := slices.Repeat([]api.Hash{none}, place)
		for _, z := range [][2]api.Item{{x, y}, {y, x}} {
			want := api.Proof{Path: append(slices.Clone(way), tree.Leaf(z[1])), End: api.Here, Item: z[0]}
			if got := proof.Make(both, z[0].Index); !equal(got, want) {
				t.Errorf("Make of one of two that part at %d: Path of %d, End %d", place, len(got.Path), got.End)
			}
			if place == bits-1 {
				continue
			}
			want.End = api.Other
			if got := proof.Make(both, flipped(z[0].Index, bits-1)); !equal(got, want) {
				t.Errorf("Make of what leaves one of two that part at %d behind it: Path of %d, End %d", place, len(got.Path), got.End)
			}
		}
		if place == 0 {
			continue
		}
		want := api.Proof{Path: append(slices.Clone(way[1:]), root(both, place)), End: api.Nobody}
		if got := proof.Make(both, flipped(x.Index, place-1)); !equal(got, want) {
			t.Errorf("Make of what leaves both ahead of where they part, at %d: Path of %d, End %d", place, len(got.Path), got.End)
		}
	}
}

// P7.1: of a list's set, in whatever order its items come.
func TestMakeOfAllKinds(t *testing.T) {
	for i, l := range lists() {
		back := last(l)
		slices.Reverse(back)
		for j, index := range indexes(l) {
			want := made(l, index)
			if got := proof.Make(l, index); !equal(got, want) {
				t.Errorf("Make of list %d, index %d: %x, want %x", i, j, got, want)
			}
			if got := proof.Make(back, index); !equal(got, want) {
				t.Errorf("Make of list %d turned round, index %d: %x, want %x", i, j, got, want)
			}
		}
	}
}

// P7.1 and DOC.md's rule 3: the list and the room behind it are not changed, and the answer hangs on neither.
func TestMakeLeavesItsList(t *testing.T) {
	for i, l := range lists() {
		room := append(slices.Clone(l), slices.Repeat([]api.Item{item(0x55, 7)}, 5)...)
		before := slices.Clone(room)
		for j, index := range indexes(l) {
			copy(room, before)
			p := proof.Make(room[:len(l)], index)
			if !slices.Equal(room, before) {
				t.Fatalf("Make changes list %d or the room behind it", i)
			}
			clear(room)
			if !equal(p, made(l, index)) {
				t.Errorf("Make of list %d, index %d hangs on what is behind the list, or is changed with it", i, j)
			}
		}
	}
}

// P7.2: what each End asks, and that there is no other one.
func TestRightOfEachEnd(t *testing.T) {
	x, y := item(0x60, 3), item(0x61, 4)
	for i, z := range []struct {
		p  api.Proof
		ok bool
	}{
		{api.Proof{End: api.Here, Item: x}, true},
		{api.Proof{End: api.Here, Item: y}, false},
		{api.Proof{End: api.Here, Item: api.Item{Index: x.Index}}, true},
		{api.Proof{End: api.Here}, false},
		{api.Proof{End: api.Nobody}, true},
		{api.Proof{End: api.Nobody, Item: x}, false},
		{api.Proof{End: api.Nobody, Item: y}, false},
		{api.Proof{End: api.Nobody, Item: api.Item{Value: api.Hash{31: 1}}}, false},
		{api.Proof{End: api.Nobody, Item: api.Item{Index: api.Hash{31: 1}}}, false},
		{api.Proof{End: api.Other, Item: x}, false},
		{api.Proof{End: api.Other, Item: y}, true},
		{api.Proof{End: api.Other}, true},
		{api.Proof{End: api.Other, Item: api.Item{Index: x.Index}}, false},
	} {
		if got := proof.Right(x.Index, z.p); got != z.ok {
			t.Errorf("Right %d: %v", i, got)
		}
	}
	for _, end := range []int{-1, 3, 4, 256, 1 << 32, 1<<32 + 1, math.MaxInt, math.MinInt} {
		for _, z := range []api.Item{x, y, {}} {
			if proof.Right(x.Index, api.Proof{End: end, Item: z}) || proof.Right(api.Hash{}, api.Proof{End: end, Item: z}) {
				t.Errorf("Right of End %d", end)
			}
		}
	}
}

// P7.2: Other is alike in just as many bits as there are levels, and may be alike in more.
func TestRightOfOtherAtEachBit(t *testing.T) {
	for _, index := range []api.Hash{{}, filled(0xff), filled(0x5a), tree.Index("ann")} {
		for place := range bits {
			near := api.Item{Index: flipped(index, place)}
			far := api.Item{Index: flipped(flipped(index, place), bits-1-place/2)}
			parts := min(place, bits-1-place/2)
			for n := range bits + 2 {
				p := api.Proof{Path: make([]api.Hash, n), End: api.Other, Item: near}
				if got := proof.Right(index, p); got != (n <= place) {
					t.Fatalf("Right of Other that parts at %d, behind %d: %v", place, n, got)
				}
				p.Item = far
				if got := proof.Right(index, p); place != bits-1-place/2 && got != (n <= parts) {
					t.Fatalf("Right of Other that parts at %d first, behind %d: %v", parts, n, got)
				}
			}
		}
	}
}

// P7.2: at most MaxPath of Path, whatever the End.
func TestRightOfLongPath(t *testing.T) {
	x := item(0x60, 3)
	for _, n := range []int{0, 1, 255, 256, 257, 258, 512, 513, 1000} {
		for _, p := range []api.Proof{{End: api.Here, Item: x}, {End: api.Nobody}} {
			p.Path = make([]api.Hash, n)
			if got := proof.Right(x.Index, p); got != (n <= api.MaxPath) {
				t.Errorf("Right of Path of %d, End %d: %v", n, p.End, got)
			}
		}
	}
}

// P7.2: what Make makes leads to the tree's Root, and to none of another bit.
func TestCheckOfMade(t *testing.T) {
	for i, l := range lists() {
		root := tree.Root(l)
		for j, index := range indexes(l) {
			p := proof.Make(l, index)
			name := fmt.Sprintf("list %d, index %d", i, j)
			if !proof.Right(index, p) {
				t.Errorf("%s: Make isn't Right", name)
			}
			taken(t, name, root, index, p)
			refused(t, name+", no root", api.Hash{}, index, p)
			refused(t, name+", another root", flipped(root, (37*i+j)%bits), index, p)
		}
	}
	p := proof.Make(names(3), tree.Index("name1"))
	for place := range bits {
		refused(t, fmt.Sprintf("bit %d of the root", place), flipped(tree.Root(names(3)), place), tree.Index("name1"), p)
	}
}

// P7.2: the last of Path first, each on the side that the index's Bit tells, up to MaxPath of them.
func TestCheckClimbs(t *testing.T) {
	for _, index := range []api.Hash{{}, filled(0xff), filled(0x55), filled(0xaa), tree.Index("ann"), tree.Index("bob")} {
		for _, n := range []int{0, 1, 2, 3, 7, 8, 9, 31, 32, 33, 128, 254, 255, 256} {
			ends := []api.Proof{
				{End: api.Here, Item: api.Item{Index: index, Value: filled(9)}},
				{End: api.Here, Item: api.Item{Index: index}},
				{End: api.Nobody},
			}
			if n < bits {
				ends = append(ends, api.Proof{End: api.Other, Item: api.Item{Index: flipped(index, n), Value: filled(9)}})
			}
			for _, p := range ends {
				p.Path = path(n)
				name := fmt.Sprintf("index %x, Path of %d, End %d", index[:2], n, p.End)
				taken(t, name, comes(index, p), index, p)
				if n > 1 {
					turned := p
					turned.Path = slices.Clone(p.Path)
					slices.Reverse(turned.Path)
					refused(t, name+", turned round", comes(index, p), index, turned)
				}
			}
		}
	}
	x := api.Item{Index: filled(0x60), Value: filled(1)}
	want := tree.Node(tree.Node(api.Hash{2}, tree.Node(api.Hash{3}, tree.Leaf(x))), api.Hash{1})
	taken(t, "three levels", want, x.Index, api.Proof{Path: []api.Hash{{1}, {2}, {3}}, End: api.Here, Item: x})
}

// P7.2: what isn't Right shows nothing, even if it comes to the root.
func TestCheckOfNotRight(t *testing.T) {
	x := api.Item{Index: tree.Index("ann"), Value: filled(3)}
	near := api.Item{Index: flipped(x.Index, 4), Value: filled(4)}
	for i, p := range []api.Proof{
		{End: api.Here, Item: near},
		{End: api.Other, Item: x},
		{End: api.Other, Item: near, Path: path(5)},
		{End: api.Other, Item: near, Path: path(256)},
		{End: api.Nobody, Item: x},
		{End: api.Nobody, Item: api.Item{Value: filled(1)}},
		{End: api.Here, Item: x, Path: path(257)},
		{End: api.Nobody, Path: path(257)},
		{End: api.Nobody, Path: path(1000)},
		{End: 3, Item: x},
		{End: -1, Item: x},
		{End: math.MinInt, Item: x, Path: path(2)},
		{End: 1<<32 + 1, Item: x},
	} {
		name := fmt.Sprintf("not right %d", i)
		refused(t, name, comes(x.Index, p), x.Index, p)
		refused(t, name+", as nobody", tree.Empty(), x.Index, p)
		refused(t, name+", as a leaf", tree.Leaf(p.Item), x.Index, p)
	}
}

// tampered are proofs that are p but for one thing, with what was done to it.
func tampered(p api.Proof) map[string]api.Proof {
	out := map[string]api.Proof{}
	for i := range p.Path {
		for _, place := range []int{0, 77, 255} {
			q := p
			q.Path = slices.Clone(p.Path)
			q.Path[i] = flipped(q.Path[i], place)
			out[fmt.Sprintf("bit %d of neighbour %d", place, i)] = q
		}
		q := p
		q.Path = slices.Delete(slices.Clone(p.Path), i, i+1)
		out[fmt.Sprintf("without neighbour %d", i)] = q
		q.Path = slices.Insert(slices.Clone(p.Path), i, p.Path[i])
		out[fmt.Sprintf("neighbour %d twice", i)] = q
	}
	for place := range bits {
		q := p
		q.Item.Value = flipped(q.Item.Value, place)
		out[fmt.Sprintf("bit %d of the Value", place)] = q
		q = p
		q.Item.Index = flipped(q.Item.Index, place)
		out[fmt.Sprintf("bit %d of the Index", place)] = q
	}
	for _, end := range []int{api.Here, api.Nobody, api.Other, 3, -1} {
		if end != p.End {
			q := p
			q.End = end
			out[fmt.Sprintf("End %d", end)] = q
			q.Item = api.Item{}
			out[fmt.Sprintf("End %d, no item", end)] = q
		}
	}
	out["a neighbour more"] = api.Proof{Path: append(slices.Clone(p.Path), tree.Empty()), End: p.End, Item: p.Item}
	return out
}

// P7.2, P7.4: a proof is taken as it is or not at all, and for its own index alone.
func TestCheckOfTampered(t *testing.T) {
	l := names(20)
	root := tree.Root(l)
	for _, index := range []api.Hash{l[0].Index, l[11].Index, tree.Index("ann"), tree.Index("bob"), tree.Index("")} {
		p := proof.Make(l, index)
		taken(t, "as it is", root, index, p)
		for name, q := range tampered(p) {
			refused(t, fmt.Sprintf("%x: %s", index[:2], name), root, index, q)
		}
	}
	for i, x := range l {
		for j := range l {
			p := proof.Make(l, l[j].Index)
			if i != j {
				refused(t, fmt.Sprintf("%d's proof for %d", j, i), root, x.Index, p)
			}
		}
		refused(t, "of a tree without it", root, x.Index, proof.Make(slices.Delete(slices.Clone(l), i, i+1), x.Index))
	}
}

// P7.3: with the sponge as it is there are no two texts to be told: of another root, of the same thing said, of what isn't Right.
func TestClashOfNone(t *testing.T) {
	l := names(20)
	newer := slices.Clone(l)
	for i := range newer {
		newer[i].Value = filled(byte(i))
	}
	for _, index := range []api.Hash{l[3].Index, tree.Index("ann"), tree.Index("")} {
		all := []api.Proof{proof.Make(l, index), proof.Make(newer, index), proof.Make(nil, index), proof.Make(l[:2], index), {}, {End: 3}}
		for _, q := range tampered(all[0]) {
			all = append(all, q)
		}
		for i, p := range all {
			for j, q := range all[:6] {
				for _, x := range [][2]api.Proof{{p, q}, {q, p}} {
					if a, b, ok := proof.Clash(index, x[0], x[1]); ok || len(a) > 0 || len(b) > 0 {
						t.Fatalf("Clash of %d and %d: %x, %x, %v", i, j, a, b, ok)
					}
				}
			}
		}
	}
}

// P7.2, P7.3 and DOC.md's rule 3: a proof's Path is neither changed, nor is the room behind it, nor is that room read.
func TestProofsAreLeft(t *testing.T) {
	l := names(9)
	index := l[4].Index
	p := proof.Make(l, index)
	n := len(p.Path)
	room := append(slices.Clone(p.Path), path(5)...)
	before := slices.Clone(room)
	p.Path = room[:n]
	other := api.Proof{End: api.Nobody, Path: room[:n-1]}
	taken(t, "with room behind it", tree.Root(l), index, p)
	if !proof.Right(index, p) || !bytes.Equal(proof.Put(p), proof.Put(proof.Make(l, index))) {
		t.Error("the room behind Path is read")
	}
	proof.Clash(index, p, other)
	if !slices.Equal(room, before) {
		t.Error("Path or the room behind it is changed")
	}
	b := proof.Put(p)
	want := bytes.Clone(b)
	clear(room)
	if !bytes.Equal(b, want) {
		t.Error("Put is changed with Path")
	}
}

// P7.3: each field in its order, of all proofs, those that aren't Right among them.
func TestPut(t *testing.T) {
	x := api.Item{Index: filled(0xab), Value: filled(0xcd)}
	for _, n := range []int{0, 1, 2, 3, 255, 256, 257, 1000} {
		for _, end := range []int{api.Here, api.Nobody, api.Other, 3, -1, math.MaxInt, math.MinInt} {
			for _, z := range []api.Item{{}, x} {
				want := bin.Num(uint64(n))
				for _, h := range path(n) {
					want = append(want, h[:]...)
				}
				want = bin.Join(want, bin.Num(uint64(end)), z.Index[:], z.Value[:])
				if got := proof.Put(api.Proof{Path: path(n), End: end, Item: z}); !bytes.Equal(got, want) {
					t.Errorf("Put of Path of %d, End %d: %d bytes, want %d", n, end, len(got), len(want))
				}
			}
		}
	}
	if got := proof.Put(api.Proof{Path: []api.Hash{}}); !bytes.Equal(got, proof.Put(api.Proof{})) {
		t.Errorf("Put of an empty Path: %x", got)
	}
}

// P7.3: what Put says Read hears, whether it is Right or not.
func TestReadOfPut(t *testing.T) {
	x := api.Item{Index: filled(0xab), Value: filled(0xcd)}
	for _, n := range []int{0, 1, 2, 3, 100, 255, 256} {
		for _, end := range []int{api.Here, api.Nobody, api.Other} {
			for _, z := range []api.Item{{}, x} {
				p := api.Proof{Path: path(n), End: end, Item: z}
				b := proof.Put(p)
				if got, e := proof.Read(b); !equal(got, p) || e != api.OK || !bytes.Equal(proof.Put(got), b) {
					t.Errorf("Read of Path of %d, End %d: Path of %d, End %d, error %d", n, end, len(got.Path), got.End, e)
				}
			}
		}
	}
	for i, l := range lists() {
		for j, index := range indexes(l) {
			p := proof.Make(l, index)
			if got, e := proof.Read(proof.Put(p)); !equal(got, p) || e != api.OK {
				t.Errorf("Read of list %d, index %d: %x, error %d", i, j, got, e)
			}
		}
	}
}

// unread fails the test unless Read tells this error and nothing else.
func unread(t *testing.T, name string, b []byte, want api.Errno) {
	t.Helper()
	if p, e := proof.Read(b); e != want || len(p.Path) > 0 || p.End != 0 || p.Item != (api.Item{}) {
		t.Errorf("%s: %x, error %d, want %d", name, p, e, want)
	}
}

// P7.3: wherever the bytes break off there isn't all of it.
func TestReadOfShort(t *testing.T) {
	for _, n := range []int{0, 1, 3} {
		for _, end := range []int{api.Here, api.Other, 3, -1} {
			b := proof.Put(api.Proof{Path: path(n), End: end, Item: item(1, 2)})
			for at := range b {
				unread(t, fmt.Sprintf("Path of %d, End %d, cut off at %d", n, end, at), b[:at:at], api.ErrShort)
			}
		}
	}
	long := proof.Put(api.Proof{Path: path(256)})
	for _, at := range []int{8, 9, 8 + 32, 8 + 255*32, 8 + 256*32 - 1, 8 + 256*32, len(long) - 1} {
		unread(t, fmt.Sprintf("Path of 256, cut off at %d", at), long[:at], api.ErrShort)
	}
	more := proof.Put(api.Proof{Path: path(2)})
	copy(more, bin.Num(3))
	unread(t, "one hash too few", more, api.ErrShort)
}

// P7.3: more than MaxPath of Path is too long, whatever comes behind.
func TestReadOfLong(t *testing.T) {
	for _, n := range []uint64{257, 258, 512, 1 << 16, 1 << 32, 1<<32 + 1, 1 << 59, math.MaxInt64, 1 << 63, 1<<63 + 1, math.MaxUint64} {
		unread(t, fmt.Sprintf("%d alone", n), bin.Num(n), api.ErrLong)
		unread(t, fmt.Sprintf("%d and bytes", n), bin.Join(bin.Num(n), make([]byte, 80)), api.ErrLong)
	}
	unread(t, "257 hashes, all there", proof.Put(api.Proof{Path: path(257), End: 3}), api.ErrLong)
	unread(t, "257 hashes and more", append(proof.Put(api.Proof{Path: path(257)}), 0), api.ErrLong)
	unread(t, "256 alone", bin.Num(256), api.ErrShort)
}

// P7.3: another End, and bytes behind the last.
func TestReadOfOtherBytes(t *testing.T) {
	for _, n := range []int{0, 2, 256} {
		good := proof.Put(api.Proof{Path: path(n), End: api.Other, Item: item(1, 2)})
		unread(t, "a byte more", append(bytes.Clone(good), 0), api.ErrBytes)
		unread(t, "twice", append(bytes.Clone(good), good...), api.ErrBytes)
		for _, end := range []uint64{3, 4, 255, 256, 257, 1 << 32, 1<<32 + 1, 1<<32 + 2, math.MaxInt64, 1 << 63, 1<<63 + 2, math.MaxUint64} {
			b := bytes.Clone(good)
			copy(b[8+32*n:], bin.Num(end))
			unread(t, fmt.Sprintf("End %d", end), b, api.ErrBytes)
			unread(t, fmt.Sprintf("End %d and a byte more", end), append(b, 1), api.ErrBytes)
			unread(t, fmt.Sprintf("End %d and a byte less", end), b[:len(b)-1], api.ErrShort)
		}
	}
}

// P7.3 and DOC.md's rule 3: the bytes are neither changed nor kept, and each answer is new memory.
func TestReadLeavesItsBytes(t *testing.T) {
	p := api.Proof{Path: path(3), End: api.Here, Item: item(1, 2)}
	room := append(proof.Put(p), 1, 2, 3)
	before := bytes.Clone(room)
	first, e := proof.Read(room[:len(room)-3])
	again, _ := proof.Read(room[:len(room)-3])
	if e != api.OK || !bytes.Equal(room, before) {
		t.Errorf("Read changes its bytes or reads behind them: error %d", e)
	}
	clear(room)
	clear(again.Path[:cap(again.Path)])
	if !equal(first, p) {
		t.Errorf("Read is changed with its bytes or another answer: %x", first)
	}
}

// P7.4: under one root all that Check takes for an index says one thing: what the tree has there.
func TestNobodyShowsTwoThings(t *testing.T) {
	trees := [][]api.Item{nil, names(1), names(2), names(9), names(10), names(10)[1:], append(names(10), api.Item{Index: tree.Index("name3"), Value: filled(1)})}
	for i, l := range trees {
		root := tree.Root(l)
		for _, name := range []string{"name0", "name3", "name9", "ann", ""} {
			index := tree.Index(name)
			want := made(l, index)
			for j, other := range trees {
				p := proof.Make(other, index)
				all := tampered(p)
				all["as it is"] = p
				for what, q := range all {
					v, here, ok := proof.Check(root, index, q)
					if ok && (here != (want.End == api.Here) || here && v != want.Item.Value || !here && v != api.Hash{}) {
						t.Errorf("tree %d by a proof of tree %d, %s, %s: %x, %v", i, j, name, what, v, here)
					}
				}
			}
		}
	}
}
