package tree_test

import (
	"bytes"
	"encoding/hex"
	"fmt"
	"math"
	"slices"
	"strings"
	"testing"

	"postmark/api"
	"postmark/bin"
	"postmark/sponge"
	"postmark/tree"
)

const greatest = math.MaxUint64

// what is a hash for a message.
func what(h api.Hash) string {
	return hex.EncodeToString(h[:])
}

// same fails the test unless got is the hash that want spells.
func same(t *testing.T, name string, got api.Hash, want string) {
	t.Helper()
	if what(got) != want {
		t.Errorf("%s: %s, want %s", name, what(got), want)
	}
}

// filled is a hash of one byte, again and again.
func filled(c byte) api.Hash {
	return api.Hash(bytes.Repeat([]byte{c}, 32))
}

// item has an Index that begins with a byte and ends with another one, and a Value that begins with a third.
func item(first, last, value byte) api.Item {
	var x api.Item
	x.Index[0], x.Index[31], x.Value[0] = first, last, value
	return x
}

// names are the items of n names.
func names(n int) []api.Item {
	var l []api.Item
	for i := range n {
		l = append(l, tree.Item(api.Entry{Name: fmt.Sprint("name", i), Version: i + 1, Key: uint64(7*i + 1)}))
	}
	return l
}

// mixed is l in another order, which hangs on seed alone.
func mixed(l []api.Item, seed uint64) []api.Item {
	l = slices.Clone(l)
	for i := len(l) - 1; i > 0; i-- {
		seed = seed*6364136223846793005 + 1442695040888963407
		at := int(seed >> 33 % uint64(i+1))
		l[i], l[at] = l[at], l[i]
	}
	return l
}

// spare is l with room behind it that is filled, too.
func spare(l []api.Item) []api.Item {
	out := slices.Clone(l)
	for range 5 {
		out = append(out, item(7, 7, 7))
	}
	return out[:len(l)]
}

// unchanged tells whether got is still spare(l), its room included.
func unchanged(got, l []api.Item) bool {
	return slices.Equal(got[:len(l)+5], append(slices.Clone(l), slices.Repeat([]api.Item{item(7, 7, 7)}, 5)...))
}

// way is a hash's bits as noughts and ones.
func way(h api.Hash) string {
	out := ""
	for _, c := range h {
		out += fmt.Sprintf("%08b", c)
	}
	return out
}

// last is what Set is, by a map.
func last(l []api.Item) []api.Item {
	values := map[string]api.Item{}
	for _, x := range l {
		values[way(x.Index)] = x
	}
	var keys []string
	for k := range values {
		keys = append(keys, k)
	}
	slices.Sort(keys)
	var out []api.Item
	for _, k := range keys {
		out = append(out, values[k])
	}
	return out
}

// root is Root by sorting out each item by itself, l a Set.
func root(l []api.Item, place int) api.Hash {
	if len(l) == 0 {
		return sponge.Tag('z')
	}
	if len(l) == 1 {
		return sponge.Tag('l', l[0].Index[:], l[0].Value[:])
	}
	var sides [2][]api.Item
	for _, x := range l {
		side := 0
		if x.Index[place/8]&(0x80>>(place%8)) != 0 {
			side = 1
		}
		sides[side] = append(sides[side], x)
	}
	left, right := root(sides[0], place+1), root(sides[1], place+1)
	return sponge.Tag('n', left[:], right[:])
}

// sets are lists of all kinds, each with items of one Index among them or not.
func sets() [][]api.Item {
	zero, one := filled(0), filled(0)
	one[31] = 1
	l := [][]api.Item{nil, {}, {{}}, {item(0, 0, 1)}, {item(0xff, 0xff, 0)}, {{}, {}}, {item(1, 0, 1), item(1, 0, 2)}, {item(1, 0, 2), item(1, 0, 1)}}
	l = append(l, []api.Item{{Index: zero, Value: one}, {Index: one, Value: zero}}, []api.Item{{Index: filled(0xff)}, {Index: zero}, {Index: one}})
	l = append(l, []api.Item{item(0x80, 0, 1), item(0x7f, 0, 2), item(0xff, 0, 3), item(0, 0, 4), item(1, 0, 5), item(0x81, 0, 6)})
	for place := range 256 {
		// two that part at this place alone, and a third elsewhere
		x := api.Item{Index: filled(0x55)}
		y := x
		y.Index[place/8] ^= 0x80 >> (place % 8)
		l = append(l, []api.Item{x, y}, []api.Item{y, {Index: filled(0xaa)}, x})
	}
	for _, n := range []int{2, 3, 11, 12, 13, 14, 50, 200} {
		l = append(l, names(n), mixed(names(n), uint64(n)))
		// many items of few Indexes, so that a sort that isn't stable is found out
		var again []api.Item
		for i := range 10 * n {
			again = append(again, item(byte(i*i*37), byte(i%3), byte(i)))
		}
		l = append(l, again, mixed(again, uint64(n)))
	}
	return l
}

// P6.1: hashes that were worked out apart from the program, by the chapters' words alone.
func TestFixedHashes(t *testing.T) {
	same(t, "Index of nothing", tree.Index(""), "b575917498d038abe0cd18c00c707f540f33965846641c860abe23bd1eb35f1b")
	same(t, "Index of ann", tree.Index("ann"), "44e5268ef92354b9128566a6557664ace52a8b40c07301107302d947ab2442d0")
	same(t, "Index of ff 00", tree.Index("\xff\x00"), "093efe24913c3092a7af4779b83eb631a0104d15436f7e5bfbb9a1862dd467c2")
	same(t, "Index of élève", tree.Index("élève"), "3971211da1813a7806f7f0878247fb0480db128bcd6f5f64ad6bf8e3316bb3de")
	same(t, "Index of forty bytes", tree.Index(strings.Repeat("a", 40)), "6f743d1137e3c65dd8277d788de8f0c90a94c1c24de7a11c803d0bf46cf0c699")
	same(t, "Value(0, 0)", tree.Value(0, 0), "2eaf2ce84c5bb6695400de42dc4a154069214ec986c98f35bec5d9af8cffcf33")
	same(t, "Value(1, 5)", tree.Value(1, 5), "32e4588c28e5a669731c9bc829586bdbb52a0e2c694e6e7c79aa78809069161e")
	same(t, "Value(258, Prime - 1)", tree.Value(258, api.Prime-1), "bb6a817283182337fa103ed4a4412dbb46284c541ce29f68a4b07a66d341fcd4")
	same(t, "Value(-1, the greatest)", tree.Value(-1, greatest), "5bc3b794fc10a2a6a4927df9a0ef042ef2f4ca4e1da0bd76b553844ff7ebdc1a")
	same(t, "Value(MaxVer, 2^63)", tree.Value(api.MaxVer, 1<<63), "10d80902830392b0f35f417bbfb0107ae1bd7f6b8733a6f80e0530d356f36e95")
	same(t, "Value(the least, 1)", tree.Value(math.MinInt, 1), "d8211dd6b2a4ab4522917e9e1eb97514b281a31f8ae188e117a98fbba7375d7d")
	x := tree.Item(api.Entry{Name: "ann", Version: 3, Key: 5})
	same(t, "Leaf of ann, 3, 5", tree.Leaf(x), "a8ca11d7a9f18ec2aaff3bf4df527df04e7ddfea62b2893ded920fe184d550cb")
	same(t, "Leaf of noughts", tree.Leaf(api.Item{}), "ef3a673c648bbd82a502cbc8519723748b8ec916e44a8083c742898997051c0e")
	same(t, "Node of noughts", tree.Node(api.Hash{}, api.Hash{}), "5586620ab9655c4546b914df1746433fafa02332cf45563bdab282a39f7853ff")
	same(t, "Empty", tree.Empty(), "ff8c985792785238ee576f8f60bb2565ab034b46010f07247f7c0c12e09f2fe1")
	same(t, "Node of Empty and a Leaf", tree.Node(tree.Empty(), tree.Leaf(x)), "4d28770a2174e1a30492d3733c6c946bcc4c51a8a31a9120a3616524ced89af0")
	same(t, "Node of a Leaf and Empty", tree.Node(tree.Leaf(x), tree.Empty()), "f4c32cd9de7c35613db1a30a177b49ca5c1dfccda92c3e61d6e2381146521971")
}

// P6.1: the sponge's Tag of the name, whatever bytes it has and however many.
func TestIndexIsOfTheNamesBytes(t *testing.T) {
	for _, name := range []string{"", "a", "A", "ann", "ann ", "\x00", "\xff", "\xff\xfe", "é", "e\u0301", strings.Repeat("a", api.MaxName), strings.Repeat("a", api.MaxName+1), strings.Repeat("b", 5000)} {
		if got := tree.Index(name); got != sponge.Tag('i', []byte(name)) {
			t.Errorf("Index(%.40q): %s", name, what(got))
		}
	}
}

// P6.1: both as numbers of eight bytes, those below 0 and above all bounds too; Item has both of an entry.
func TestValueAndItemOfAnyEntry(t *testing.T) {
	for _, version := range []int{0, 1, 2, 256, 1 << 32, api.MaxVer, api.MaxVer + 1, math.MaxInt, -1, math.MinInt} {
		for _, key := range []uint64{0, 1, 258, 1 << 32, api.Prime - 1, api.Prime, 1 << 63, greatest} {
			want := sponge.Tag('v', bin.Num(uint64(version)), bin.Num(key))
			if got := tree.Value(version, key); got != want {
				t.Errorf("Value(%d, %d): %s", version, key, what(got))
			}
			for _, name := range []string{"", "ann", strings.Repeat("\xff", 40)} {
				got := tree.Item(api.Entry{Name: name, Version: version, Key: key})
				if got != (api.Item{Index: sponge.Tag('i', []byte(name)), Value: want}) {
					t.Errorf("Item of %.40q, %d, %d: %v", name, version, key, got)
				}
			}
		}
	}
}

// P6.1: each bit alone is where it is said to be, the highest of a byte first.
func TestBitOfEachPlace(t *testing.T) {
	for place := range 256 {
		var one api.Hash
		one[place/8] = 0x80 >> (place % 8)
		none := filled(0xff)
		none[place/8] ^= one[place/8]
		for i := -10; i < 266; i++ {
			want := 0
			if i == place {
				want = 1
			}
			if got := tree.Bit(one, i); got != want {
				t.Errorf("Bit(only %d, %d): %d", place, i, got)
			}
			if i >= 0 && i < 256 {
				want = 1 - want
			}
			if got := tree.Bit(none, i); got != want {
				t.Errorf("Bit(all but %d, %d): %d", place, i, got)
			}
		}
	}
}

// P6.1: there is no bit but the 256, so that all others are 0.
func TestBitOfNoPlace(t *testing.T) {
	for _, i := range []int{-1, -7, -8, -9, -256, -257, 256, 257, 263, 264, 511, 512, 1 << 32, 1<<32 + 1, -1 << 32, math.MaxInt, math.MinInt, math.MinInt + 1} {
		if got := tree.Bit(filled(0xff), i); got != 0 {
			t.Errorf("Bit(all, %d): %d", i, got)
		}
	}
}

// P6.1: each of both counts, and which of them is first; a leaf isn't a node of the same.
func TestLeafAndNodeOfBoth(t *testing.T) {
	seen := map[api.Hash]string{}
	note := func(name string, h api.Hash) {
		if other, ok := seen[h]; ok {
			t.Errorf("%s and %s are one", name, other)
		}
		seen[h] = name
	}
	note("empty", tree.Empty())
	l := []api.Hash{{}, filled(1), filled(0xff), tree.Empty(), tree.Index("ann")}
	for i, a := range l {
		for j, b := range l {
			name := fmt.Sprint(i, ", ", j)
			leaf, node := tree.Leaf(api.Item{Index: a, Value: b}), tree.Node(a, b)
			if leaf != sponge.Tag('l', a[:], b[:]) || node != sponge.Tag('n', a[:], b[:]) {
				t.Errorf("Leaf or Node of %s", name)
			}
			note("leaf "+name, leaf)
			note("node "+name, node)
		}
	}
}

// P6.2: of each Index the last one, rising.
func TestSetIsTheLastOfEachIndex(t *testing.T) {
	a, b, c := item(0, 0, 1), item(0x7f, 0, 2), item(0x80, 0, 3)
	for i, x := range []struct{ l, more, want []api.Item }{
		{nil, nil, nil},
		{[]api.Item{}, nil, nil},
		{[]api.Item{a}, nil, []api.Item{a}},
		{nil, []api.Item{a}, []api.Item{a}},
		{[]api.Item{c, b, a}, nil, []api.Item{a, b, c}},
		{[]api.Item{c, a}, []api.Item{b}, []api.Item{a, b, c}},
		{[]api.Item{a, b}, []api.Item{item(0, 0, 9)}, []api.Item{item(0, 0, 9), b}},
		{[]api.Item{item(0, 0, 9)}, []api.Item{b, a}, []api.Item{a, b}},
		{[]api.Item{a, item(0, 0, 8), b}, nil, []api.Item{item(0, 0, 8), b}},
		{nil, []api.Item{b, item(0, 0, 8), a}, []api.Item{a, b}},
		{[]api.Item{a, b, c}, []api.Item{a, b, c}, []api.Item{a, b, c}},
		{[]api.Item{item(0, 0, 9), item(0, 1, 1), item(0, 0, 5)}, []api.Item{item(0, 0, 6), item(0, 0, 4)}, []api.Item{item(0, 0, 4), item(0, 1, 1)}},
	} {
		if got := tree.Set(x.l, x.more); !slices.Equal(got, x.want) {
			t.Errorf("Set %d: %v, want %v", i, got, x.want)
		}
	}
}

// P6.2: wherever the list is cut in two, and however often an Index is there.
func TestSetOfAllKinds(t *testing.T) {
	for i, l := range sets() {
		want := last(l)
		for _, at := range []int{0, 1, len(l) / 2, len(l) - 1, len(l)} {
			if at < 0 || at > len(l) {
				continue
			}
			if got := tree.Set(l[:at:at], l[at:]); !slices.Equal(got, want) {
				t.Errorf("Set %d, cut at %d: %v, want %v", i, at, got, want)
			}
		}
		if got := tree.Set(want, want); !slices.Equal(got, want) {
			t.Errorf("Set of Set %d: %v, want %v", i, got, want)
		}
	}
}

// P6.2: all bytes of an Index count for the order, the first most, and each from 0 to 255.
func TestSetIsInOrderOfBytes(t *testing.T) {
	for at := range 32 {
		var l []api.Item
		for c := range 256 {
			x := api.Item{Index: filled(0x80)}
			x.Index[at] = byte(c)
			l = append(l, x)
			if at < 31 {
				x.Index[at+1] = byte(255 - c)
				l = append(l, x)
			}
		}
		got := tree.Set(mixed(l, uint64(at)), nil)
		if !slices.IsSortedFunc(got, func(a, b api.Item) int { return strings.Compare(way(a.Index), way(b.Index)) }) || !slices.Equal(got, last(l)) {
			t.Errorf("Set of Indexes that are unlike at %d isn't in order", at)
		}
	}
}

// P6.2 and DOC.md's rule 3: neither list nor the room behind it is changed, and the answer shares nothing with them.
func TestSetLeavesItsLists(t *testing.T) {
	left, right := []api.Item{item(9, 0, 1), item(2, 0, 2), item(9, 0, 3)}, []api.Item{item(5, 0, 4), item(1, 0, 5), item(2, 0, 6)}
	for _, x := range [][2][]api.Item{{left, right}, {left, nil}, {nil, right}, {last(left), nil}, {nil, last(right)}} {
		l, more := spare(x[0]), spare(x[1])
		want := last(append(slices.Clone(x[0]), x[1]...))
		got := tree.Set(l, more)
		if !unchanged(l, x[0]) || !unchanged(more, x[1]) || !slices.Equal(got, want) {
			t.Errorf("Set of %v and %v: %v", x[0], x[1], got)
		}
		clear(got[:cap(got)])
		if !unchanged(l, x[0]) || !unchanged(more, x[1]) {
			t.Errorf("the answer of Set of %v and %v shares memory with them", x[0], x[1])
		}
		got = tree.Set(l, more)
		clear(l)
		clear(more)
		if !slices.Equal(got, want) {
			t.Errorf("Set of %v and %v is changed with them: %v", x[0], x[1], got)
		}
	}
}

// P6.2: roots that were worked out apart from the program, by the chapters' words alone.
func TestFixedRoots(t *testing.T) {
	for n, want := range map[int]string{
		0:   "ff8c985792785238ee576f8f60bb2565ab034b46010f07247f7c0c12e09f2fe1",
		1:   "00d2ddd7437a37359f8429a540bb31f02966d1e28d65a7e5d02e0bc5ddd0e54e",
		2:   "5524766ceaddb39ae893858578535c722c10b37f5b51bc733b96f144424b3688",
		3:   "a28c07c9e3f97d94c506f1022f1f7064eb59c6c4b5a500f483f22c6b5fabd28a",
		10:  "39f7d3ad3794e063827a6e0563dc2589b5ec6b44ba7ac38991ab11c9c3d326a8",
		100: "02f75c8f206cc66c7174770fc5ca4d61eff9e64e995aa00b9a3e265c503d8fb5",
	} {
		same(t, fmt.Sprintf("Root of %d names", n), tree.Root(names(n)), want)
	}
	zero, one, ones, less := filled(0), filled(0), filled(0xff), filled(0xff)
	one[31], less[31] = 1, 0xfe
	same(t, "Root of two that part at the last bit", tree.Root([]api.Item{{Index: zero, Value: one}, {Index: one, Value: zero}}), "995ffe9aa2f35c4fa9421aa5bcd592e4319b50e50df042c4e6dcca237ec02983")
	same(t, "Root of two others that do", tree.Root([]api.Item{{Index: ones, Value: one}, {Index: less, Value: zero}}), "9eb92ff596adfedb9ce127a5b67fb23ddf3a853e2f247031ffe30af473b91cc6")
}

// P6.2: Empty of none, the Leaf of one, whatever it is, and a Node from two on.
func TestRootOfFew(t *testing.T) {
	leaf, node, none := tree.Leaf, tree.Node, tree.Empty()
	low, high, mid := item(0x00, 0, 1), item(0x80, 0, 2), item(0x40, 0, 3)
	if tree.Root(nil) != none || tree.Root([]api.Item{}) != none {
		t.Error("Root of none isn't Empty")
	}
	for _, x := range []api.Item{{}, low, high, {Index: filled(0xff), Value: filled(0xff)}} {
		if tree.Root([]api.Item{x}) != leaf(x) || tree.Root([]api.Item{x, x, x}) != leaf(x) {
			t.Errorf("Root of one isn't its Leaf: %v", x)
		}
	}
	for i, x := range []struct {
		l    []api.Item
		want api.Hash
	}{
		{[]api.Item{low, high}, node(leaf(low), leaf(high))},
		{[]api.Item{high, low}, node(leaf(low), leaf(high))},
		{[]api.Item{mid, low}, node(node(leaf(low), leaf(mid)), none)},
		{[]api.Item{high, item(0xc0, 0, 4)}, node(none, node(leaf(high), leaf(item(0xc0, 0, 4))))},
		{[]api.Item{high, mid, low}, node(node(leaf(low), leaf(mid)), leaf(high))},
		{[]api.Item{item(0, 0, 9), high, low}, node(leaf(low), leaf(high))},
		{[]api.Item{low, high, item(0, 0, 9)}, node(leaf(item(0, 0, 9)), leaf(high))},
	} {
		if got := tree.Root(x.l); got != x.want {
			t.Errorf("Root %d: %s, want %s", i, what(got), what(x.want))
		}
	}
}

// P6.2: down to the last place, and of the last of each Index alone, in whatever order they come.
func TestRootOfAllKinds(t *testing.T) {
	for i, l := range sets() {
		set := last(l)
		want := root(set, 0)
		if got := tree.Root(l); got != want {
			t.Errorf("Root of list %d: %s, want %s", i, what(got), what(want))
		}
		for seed := range uint64(3) {
			if got := tree.Root(mixed(set, seed)); got != want {
				t.Errorf("Root of set %d in another order: %s, want %s", i, what(got), what(want))
			}
		}
	}
}

// P6.2 and DOC.md's rule 3: neither the list nor the room behind it is changed.
func TestRootLeavesItsList(t *testing.T) {
	for i, l := range sets() {
		b := spare(l)
		if tree.Root(b) != tree.Root(l) || !unchanged(b, l) {
			t.Errorf("Root changes list %d or hangs on what is behind it", i)
		}
	}
}

// P6.3: whoever knows the root knows them all: no other set of items has it.
func TestUnlikeSetsHaveUnlikeRoots(t *testing.T) {
	seen := map[api.Hash]string{}
	note := func(l []api.Item) {
		h, set := tree.Root(l), fmt.Sprint(last(l))
		if other, ok := seen[h]; ok && other != set {
			t.Errorf("%s and %s have one root", other, set)
		}
		seen[h] = set
	}
	for _, l := range sets()[:60] {
		note(l)
	}
	l := names(12)
	for i := range l {
		note(l[:i])
		note(slices.Delete(slices.Clone(l), i, i+1))
		for bit := range 256 {
			changed := slices.Clone(l)
			changed[i].Index[bit/8] ^= 1 << (bit % 8)
			note(changed)
			changed = slices.Clone(l)
			changed[i].Value[bit/8] ^= 1 << (bit % 8)
			note(changed)
		}
		for j := range i {
			changed := slices.Clone(l)
			changed[i].Value, changed[j].Value = changed[j].Value, changed[i].Value
			note(changed)
		}
	}
	if want := 12*512 + 12*11/2; len(seen) < want {
		t.Errorf("only %d roots were seen", len(seen))
	}
}

// P6.3: a name's newer version changes the root, and the elder one brings it back.
func TestRootHangsOnEachEntry(t *testing.T) {
	l := names(40)
	want := tree.Root(l)
	for i := range l {
		name := fmt.Sprint("name", i)
		newer := tree.Item(api.Entry{Name: name, Version: i + 2, Key: uint64(7*i + 1)})
		other := tree.Item(api.Entry{Name: name, Version: i + 1, Key: uint64(7*i + 2)})
		for _, x := range []api.Item{newer, other} {
			if tree.Root(tree.Set(l, []api.Item{x})) == want {
				t.Errorf("another version or key of %s has the same root", name)
			}
			if tree.Root(tree.Set(l, []api.Item{x, l[i]})) != want {
				t.Errorf("%s as it was has another root", name)
			}
		}
	}
}
