package logtree_test

import (
	"bytes"
	"encoding/hex"
	"fmt"
	"math"
	"slices"
	"testing"

	"postmark/api"
	"postmark/bin"
	"postmark/logtree"
	"postmark/sponge"
	"postmark/tree"
)

// what is a hash for a message.
func what(h api.Hash) string {
	return hex.EncodeToString(h[:])
}

// same fails the test unless got is the hash that want spells.
func same(t *testing.T, name string, got api.Hash, want string) {
	t.Helper()
	if what(got) != want {
		t.Errorf("%s: %s, want %s", name, what(got), want)
	}
}

// filled is a hash of one byte, again and again.
func filled(c byte) api.Hash {
	return api.Hash(bytes.Repeat([]byte{c}, 32))
}

// flipped is h with one bit turned over.
func flipped(h api.Hash, place int) api.Hash {
	h[place/8] ^= 0x80 >> (place % 8)
	return h
}

// leaves are n, all unlike.
func leaves(n int) []api.Hash {
	var l []api.Hash
	for i := range n {
		l = append(l, logtree.Leaf(fmt.Append(nil, "leaf", i)))
	}
	return l
}

// path is n hashes that are all unlike, and no leaves.
func path(n int) []api.Hash {
	var l []api.Hash
	for i := range n {
		l = append(l, sponge.Sum(bin.Num(uint64(i))))
	}
	return l
}

// node is Node by the chapter's words.
func node(l, r api.Hash) api.Hash {
	return sponge.Tag('N', l[:], r[:])
}

// levels are a log's hashes, level by level from the leaves up: two and two come to a node, one that is left goes up as it is. It is the same tree, seen from below.
func levels(l []api.Hash) [][]api.Hash {
	out := [][]api.Hash{l}
	for len(l) > 1 {
		var up []api.Hash
		for i := 0; i+1 < len(l); i += 2 {
			up = append(up, node(l[i], l[i+1]))
		}
		if len(l)%2 == 1 {
			up = append(up, l[len(l)-1])
		}
		out = append(out, up)
		l = up
	}
	return out
}

// root is Root by levels.
func root(l []api.Hash) api.Hash {
	if len(l) == 0 {
		return sponge.Tag('E')
	}
	all := levels(l)
	return all[len(all)-1][0]
}

// way is Path by levels.
func way(l []api.Hash, i int) []api.Hash {
	var out []api.Hash
	for _, level := range levels(l) {
		if i^1 < len(level) {
			out = append(out, level[i^1])
		}
		i /= 2
	}
	return out
}

// long is how many neighbours the i-th of n leaves has.
func long(n, i int) int {
	out := 0
	for last := n - 1; last > 0; last /= 2 {
		if i < last || i%2 == 1 {
			out++
		}
		i /= 2
	}
	return out
}

// comes is what neighbours lead to by RFC 9162, 2.1.3.2, and whether it takes them: a walk from below, by the bits of i and of the last leaf's place.
func comes(n, i int, leaf api.Hash, path []api.Hash) (api.Hash, bool) {
	if i < 0 || i >= n {
		return api.Hash{}, false
	}
	at, last, h := i, n-1, leaf
	for _, p := range path {
		if last == 0 {
			return api.Hash{}, false
		}
		if at%2 == 0 && at != last {
			h = node(h, p)
		} else {
			h = node(p, h)
			for at%2 == 0 && at != 0 {
				at, last = at/2, last/2
			}
		}
		at, last = at/2, last/2
	}
	return h, last == 0
}

// refused fails the test if Check takes it.
func refused(t *testing.T, name string, root api.Hash, n, i int, leaf api.Hash, path []api.Hash) {
	t.Helper()
	if logtree.Check(root, n, i, leaf, path) {
		t.Errorf("%s: leaf %d of %d, Path of %d: taken", name, i, n, len(path))
	}
}

// great are lengths of logs that nobody has, and places in them at their edges.
func great() map[int][]int {
	out := map[int][]int{}
	for _, n := range []int{1<<20 - 1, 1 << 20, 1<<31 - 1, 1 << 31, 1<<31 + 1, 1 << 32, 1<<32 + 1, 1 << 40, 1<<62 - 1, 1 << 62, 1<<62 + 1, 1<<62 + 5, math.MaxInt - 1, math.MaxInt} {
		k := logtree.Split(n)
		out[n] = []int{0, 1, 2, k/2 - 1, k / 2, k - 1, k, k + (n-k)/2, n / 2, n / 3, n - 2, n - 1}
	}
	return out
}

// P8.1: hashes that were worked out apart from the program, by the chapters' words alone.
func TestFixedHashes(t *testing.T) {
	same(t, "Leaf of nothing", logtree.Leaf(nil), "e5cd09da861ef9bebd4c586c707a6489b744d63520a0911ddc670e8b377d2f55")
	same(t, "Leaf of no bytes", logtree.Leaf([]byte{}), "e5cd09da861ef9bebd4c586c707a6489b744d63520a0911ddc670e8b377d2f55")
	same(t, "Leaf of 00", logtree.Leaf([]byte{0}), "de8519057d335bf3e898733696a5e07218e18492a1992f06ed78f831407ef949")
	same(t, "Leaf of abc", logtree.Leaf([]byte("abc")), "7936790aaba29b605bae4bc2e74268101b12772e8b517c845af64d3ea48f0053")
	same(t, "Leaf of 1000 bytes", logtree.Leaf(bytes.Repeat([]byte{0xff}, 1000)), "d080e173b01cabbf91502fb4bf7bf47619f8c17f55329601b53943708215ae63")
	a, b := logtree.Leaf([]byte("a")), logtree.Leaf([]byte("b"))
	same(t, "Node of noughts", logtree.Node(api.Hash{}, api.Hash{}), "e2beb264937d46dcde5288c21c0bcc0482b9e284d2c58d896e7eb1cb97bddd46")
	same(t, "Node of a, b", logtree.Node(a, b), "7d4b4653b4706a206f0cbac7ffc3638b10167fa629288a0ffa893711ffe9db74")
	same(t, "Node of b, a", logtree.Node(b, a), "a2462548418a088ef983ced4a771e8fe61b789fb0be415dae0f3be3ef5f0cf9b")
	for n, want := range map[int]string{
		0:   "239e3091584425a46caa7d8f995c195dc280ad5038a86e1f685c02f60a608db5",
		1:   "5e1bf16d4a7d5cb5a385f67efed56b5090c6abb599739f50ab1be3431a434276",
		2:   "7ebfdf1af88e7f52249c8e65b0308da6d682ba3e3840dace0ba262daab037075",
		3:   "8ecec910de1485a5615343d19fce4efc2fd71f28b802e509f2ae6db253bd9ab3",
		4:   "5907fb29945af976b446c3d604d31e7acf7b6dd0a7eba9b2d8b0689a233929c2",
		5:   "8fdd85ef47464cc6d3f90758fd252b1fd6b956cab44b2d52e309af8ad8b5fdce",
		6:   "a16d2b97d70d58133d60d43277ce598fdf24531449acc5c42642bca88691d42b",
		7:   "2b1bc57be7d62ce21e9fc19f4cc521ac9fb8833063415395d84bf513ed4412e5",
		8:   "470d3ac052e29b0b1708db010242f394ae038021273d5a37b1445530e0241162",
		9:   "d2d18201a953a54cb0f51a595cbc62bb0b9f5c657c22886f061c085f644d4846",
		13:  "e963568a3ce22e5464ad5a3b6071250ee6da8a773d4f776515f871771713f676",
		64:  "57988d209342a38587bd5409159d98ef5122e59a9eb6e0a9c58aa9669aa439ec",
		65:  "d7dadf0a2e9bcdd057ac227cf3aa19052273e3b41f8457f95666d9c47e3552a4",
		100: "ba6d16a2c0eb8d69d69db1041a297be33010b6c87d31256d91261871a43e044a",
	} {
		same(t, fmt.Sprintf("Root of %d", n), logtree.Root(leaves(n)), want)
	}
}

// P8.1: the sponge's Tags, which of both is first counts, and neither is the other one or tree's.
func TestLeafAndNodeAreTags(t *testing.T) {
	seen := map[api.Hash]string{sponge.Tag('E'): "Root of none"}
	note := func(name string, h api.Hash) {
		if other, ok := seen[h]; ok {
			t.Errorf("%s and %s are one", name, other)
		}
		seen[h] = name
	}
	l := []api.Hash{{}, filled(1), filled(0xff), flipped(api.Hash{}, 255), logtree.Leaf(nil)}
	for i, a := range l {
		for j, b := range l {
			name := fmt.Sprint(i, ", ", j)
			if got := logtree.Node(a, b); got != sponge.Tag('N', a[:], b[:]) {
				t.Errorf("Node of %s: %s", name, what(got))
			}
			both := slices.Concat(a[:], b[:])
			if got := logtree.Leaf(both); got != sponge.Tag('L', both) {
				t.Errorf("Leaf of %s: %s", name, what(got))
			}
			note("Node of "+name, logtree.Node(a, b))
			note("Leaf of "+name, logtree.Leaf(both))
			note("tree's Node of "+name, tree.Node(a, b))
			note("tree's Leaf of "+name, tree.Leaf(api.Item{Index: a, Value: b}))
		}
	}
	for n := range 70 {
		b := bytes.Repeat([]byte{0}, n)
		if got := logtree.Leaf(b); got != sponge.Tag('L', b) {
			t.Errorf("Leaf of %d noughts: %s", n, what(got))
		}
		if n != 64 { // above: Leaf of 0, 0
			note(fmt.Sprintf("Leaf of %d noughts", n), logtree.Leaf(b))
		}
	}
}

// P8.1 and DOC.md's rule 3: neither the bytes nor the room behind them are changed, nor is that room read.
func TestLeafLeavesItsBytes(t *testing.T) {
	room := []byte("abc#####")
	if logtree.Leaf(room[:3]) != logtree.Leaf([]byte("abc")) || string(room) != "abc#####" {
		t.Errorf("Leaf reads behind its bytes or changes them: %q", room)
	}
}

// P8.1: the greatest power of two below n: n itself isn't, if it is one.
func TestSplitOfEach(t *testing.T) {
	want := 0
	for n := -100; n < 20000; n++ {
		if n == 2 {
			want = 1
		} else if n > 2 && 2*want < n {
			want *= 2
		}
		if got := logtree.Split(n); got != want {
			t.Errorf("Split(%d): %d, want %d", n, got, want)
		}
	}
}

// P8.1: at each power of two, and of numbers that have none below them.
func TestSplitAtEdges(t *testing.T) {
	for i := 1; i < 63; i++ {
		n := 1 << i
		if got := logtree.Split(n); got != n/2 {
			t.Errorf("Split(2^%d): %d", i, got)
		}
		if got := logtree.Split(n + 1); got != n {
			t.Errorf("Split(2^%d + 1): %d", i, got)
		}
		if got := logtree.Split(n + n/2); i > 1 && got != n {
			t.Errorf("Split(3 * 2^%d): %d", i-1, got)
		}
		if got := logtree.Split(n - 1 + n); got != n {
			t.Errorf("Split(2^%d - 1): %d", i+1, got)
		}
		if got := logtree.Split(-n); got != 0 {
			t.Errorf("Split(-2^%d): %d", i, got)
		}
	}
	for n, want := range map[int]int{1: 0, 0: 0, -1: 0, math.MinInt: 0, math.MinInt + 1: 0, -math.MaxInt / 2: 0, math.MaxInt: 1 << 62, math.MaxInt - 1: 1 << 62} {
		if got := logtree.Split(n); got != want {
			t.Errorf("Split(%d): %d, want %d", n, got, want)
		}
	}
}

// P8.1: of none, of one, of a few, each as the words have it.
func TestRootOfFew(t *testing.T) {
	l := leaves(7)
	two, four := node(l[0], l[1]), node(node(l[0], l[1]), node(l[2], l[3]))
	for n, want := range []api.Hash{
		sponge.Tag('E'),
		l[0],
		two,
		node(two, l[2]),
		four,
		node(four, l[4]),
		node(four, node(l[4], l[5])),
		node(four, node(node(l[4], l[5]), l[6])),
	} {
		same(t, fmt.Sprintf("Root of %d", n), logtree.Root(l[:n]), what(want))
	}
	same(t, "Root of nil", logtree.Root(nil), what(sponge.Tag('E')))
	for i, h := range []api.Hash{{}, filled(0xff), sponge.Tag('E')} {
		same(t, fmt.Sprintf("Root of one, %d", i), logtree.Root([]api.Hash{h}), what(h))
	}
	same(t, "Root of one twice", logtree.Root([]api.Hash{l[0], l[0]}), what(node(l[0], l[0])))
}

// P8.1: the Roots of the first Split(len) and of the rest, of logs of all lengths.
func TestRootOfAllLengths(t *testing.T) {
	l := leaves(1025)
	for n := range len(l) + 1 {
		if n > 300 && n < 1020 {
			continue
		}
		got := logtree.Root(l[:n])
		if got != root(l[:n]) {
			t.Errorf("Root of %d: %s", n, what(got))
		}
		if k := logtree.Split(n); n > 1 && got != logtree.Node(logtree.Root(l[:k]), logtree.Root(l[k:n])) {
			t.Errorf("Root of %d isn't that of its parts", n)
		}
	}
}

// P8.1, P8.2 and DOC.md's rule 3: neither list nor the room behind it is changed, that room isn't read, and what is answered shares nothing.
func TestListsAreLeft(t *testing.T) {
	for n := range 20 {
		room := append(leaves(n), path(5)...)
		before := slices.Clone(room)
		l := room[:n]
		if logtree.Root(l) != root(before[:n]) || !slices.Equal(room, before) {
			t.Fatalf("Root of %d reads behind its list or changes it", n)
		}
		for i := range n {
			want := way(before[:n], i)
			first, _ := logtree.Path(l, i)
			again, _ := logtree.Path(l, i)
			clear(again[:cap(again)])
			if !slices.Equal(room, before) || !slices.Equal(first, want) {
				t.Fatalf("Path %d of %d reads behind its list, changes it, or shares memory", i, n)
			}
			clear(room)
			if !slices.Equal(first, want) {
				t.Fatalf("Path %d of %d is changed with its list", i, n)
			}
			copy(room, before)
		}
	}
}

// P8.2: the neighbours from the leaf up.
func TestPathOfFew(t *testing.T) {
	l := leaves(7)
	two, four := node(l[0], l[1]), node(node(l[0], l[1]), node(l[2], l[3]))
	for k, x := range []struct {
		n, i int
		want []api.Hash
	}{
		{1, 0, nil},
		{2, 0, l[1:2]},
		{2, 1, l[:1]},
		{3, 0, l[1:3]},
		{3, 1, []api.Hash{l[0], l[2]}},
		{3, 2, []api.Hash{two}},
		{4, 2, []api.Hash{l[3], two}},
		{5, 3, []api.Hash{l[2], two, l[4]}},
		{5, 4, []api.Hash{four}},
		{6, 0, []api.Hash{l[1], node(l[2], l[3]), node(l[4], l[5])}},
		{6, 5, []api.Hash{l[4], four}},
		{7, 4, []api.Hash{l[5], l[6], four}},
		{7, 6, []api.Hash{node(l[4], l[5]), four}},
	} {
		if got, ok := logtree.Path(l[:x.n], x.i); !ok || !slices.Equal(got, x.want) {
			t.Errorf("Path %d: %x, %v, want %x", k, got, ok, x.want)
		}
	}
}

// P8.2: hashes that were worked out apart from the program.
func TestFixedPath(t *testing.T) {
	p, ok := logtree.Path(leaves(13), 9)
	if !ok || len(p) != 4 {
		t.Fatalf("Path of the 9th of 13: %x, %v", p, ok)
	}
	same(t, "its first", p[0], "1a69ae56d9a4ed83f1d85e51dbe093e09f3c34e6d5bf943655ca401d068d5f01")
	same(t, "its second", p[1], "3517a6c6913e3e2822a983787b9599157e4351609656b6e74846c5191000e89e")
	same(t, "its third", p[2], "895e4c02815a7f920e40c3ddcda0464344ef27a9bcd02bb99caa5bebc7fcdd08")
	same(t, "its last", p[3], "470d3ac052e29b0b1708db010242f394ae038021273d5a37b1445530e0241162")
	p, ok = logtree.Path(leaves(13), 12)
	if !ok || len(p) != 2 {
		t.Fatalf("Path of the 12th of 13: %x, %v", p, ok)
	}
	same(t, "its first", p[0], "8fcdc37c306f43af1fb5e34c6ed43230d8f523a0c0b3d38e604e7ae0fcff742c")
	same(t, "its last", p[1], "470d3ac052e29b0b1708db010242f394ae038021273d5a37b1445530e0241162")
}

// P8.2: of each leaf of logs of all lengths, and Check takes it.
func TestPathOfAllLengths(t *testing.T) {
	lengths := []int{127, 128, 129, 200, 255, 256, 257}
	for n := 1; n <= 70; n++ {
		lengths = append(lengths, n)
	}
	all := leaves(257)
	for _, n := range lengths {
		l := all[:n]
		whole := logtree.Root(l)
		for i := range n {
			got, ok := logtree.Path(l, i)
			if !ok || !slices.Equal(got, way(l, i)) || len(got) != long(n, i) {
				t.Errorf("Path %d of %d: %x, %v", i, n, got, ok)
			}
			if !logtree.Check(whole, n, i, l[i], got) {
				t.Errorf("Check refuses leaf %d of %d", i, n)
			}
		}
	}
}

// P8.2: there are leaves 0 to len - 1 alone.
func TestPathOfNoLeaf(t *testing.T) {
	for n := range 20 {
		l := append(leaves(n), path(3)...)[:n]
		for _, i := range []int{n, n + 1, n + 2, 64, 1 << 32, 1 << 62, math.MaxInt, -1, -2, -n - 1, -1 << 32, math.MinInt, math.MinInt + 1} {
			if got, ok := logtree.Path(l, i); ok || len(got) > 0 {
				t.Errorf("Path %d of %d: %x, %v", i, n, got, ok)
			}
		}
	}
	if got, ok := logtree.Path(nil, 0); ok || len(got) > 0 {
		t.Errorf("Path 0 of nil: %x, %v", got, ok)
	}
}

// P8.2: i is 0 to n - 1, whatever the rest comes to.
func TestCheckOfNoLeaf(t *testing.T) {
	x := filled(5)
	for _, h := range []api.Hash{x, sponge.Tag('E'), {}, logtree.Node(x, x)} {
		for _, n := range []int{0, -1, -2, math.MinInt, math.MinInt + 1, -1 << 32} {
			for _, i := range []int{0, 1, -1, -2, n, n - 1, math.MinInt, math.MaxInt} {
				refused(t, "no log", h, n, i, x, nil)
				refused(t, "no log", h, n, i, x, []api.Hash{x})
			}
		}
		for _, i := range []int{1, 2, 3, -1, -2, math.MinInt, math.MaxInt, 1 << 32} {
			refused(t, "not there", h, 1, i, x, nil)
		}
		for _, i := range []int{2, 3, 4, -1, -2, math.MinInt, math.MinInt + 1, math.MaxInt, 1 << 32, 1<<32 + 1} {
			refused(t, "not there", h, 2, i, x, []api.Hash{x})
		}
	}
	for _, n := range []int{1, 2, 3, 7, 8, 1 << 62, math.MaxInt} {
		for _, i := range []int{n, n + 1, -1, -n} {
			for l := range 66 {
				p := slices.Repeat([]api.Hash{x}, l)
				h := x
				for range l {
					h = logtree.Node(h, h)
					refused(t, "not there", h, n, i, x, p)
				}
			}
		}
	}
	if !logtree.Check(x, 1, 0, x, nil) || !logtree.Check(x, 1, 0, x, []api.Hash{}) {
		t.Error("the one of one is refused")
	}
}

// P8.2: as a log of so many leaves has it, in its last and its first part, up to the greatest length.
func TestCheckOfGreatLogs(t *testing.T) {
	x := filled(5)
	for n, places := range great() {
		for _, i := range places {
			p := path(long(n, i))
			h, ok := comes(n, i, x, p)
			if !ok || !logtree.Check(h, n, i, x, p) {
				t.Errorf("leaf %d of %d, Path of %d: refused", i, n, len(p))
				continue
			}
			refused(t, "another root", flipped(h, i%256), n, i, x, p)
			refused(t, "another leaf", h, n, i, filled(6), p)
			refused(t, "a neighbour less", h, n, i, x, p[1:])
			refused(t, "a neighbour less", h, n, i, x, p[:len(p)-1])
			refused(t, "none", h, n, i, x, nil)
			refused(t, "a neighbour more", h, n, i, x, append(slices.Clone(p), filled(1)))
			longer := path(100)
			refused(t, "100 neighbours", h, n, i, x, longer)
			if len(p) > 1 {
				turned := slices.Clone(p)
				slices.Reverse(turned)
				refused(t, "turned round", h, n, i, x, turned)
			}
		}
	}
	if got := long(math.MaxInt, 0); got != 63 {
		t.Errorf("the first of the greatest log has %d neighbours", got)
	}
}

// P8.2: as many neighbours as the leaf has, no more and no fewer, though they lead to a root.
func TestCheckOfEachLength(t *testing.T) {
	x := filled(5)
	for n := 1; n <= 20; n++ {
		for i := range n {
			for size := range 10 {
				for _, p := range [][]api.Hash{path(size), slices.Repeat([]api.Hash{x}, size)} {
					h, ok := comes(n, i, x, p)
					if ok != (size == long(n, i)) {
						t.Fatalf("the test's walk takes %d neighbours of leaf %d of %d", size, i, n)
					}
					if got := logtree.Check(h, n, i, x, p); got != ok {
						t.Errorf("leaf %d of %d, Path of %d: %v", i, n, size, got)
					}
				}
			}
		}
	}
}

// P8.2: where neighbours are missing there is no root, and nothing that stands for what they would lead to.
func TestCheckOfMissingNeighbours(t *testing.T) {
	x, p := filled(5), filled(6)
	for n := 2; n <= 20; n++ {
		for i := range n {
			for _, h := range []api.Hash{{}, sponge.Tag('E'), x} {
				refused(t, "no neighbours", h, n, i, x, nil)
				if long(n, i) > 1 {
					refused(t, "only one", logtree.Node(h, p), n, i, x, []api.Hash{p})
					refused(t, "only one", logtree.Node(p, h), n, i, x, []api.Hash{p})
				}
			}
		}
	}
}

// P8.2: whatever is asked, Check says what RFC 9162's walk says; a Path says nothing of how many leaves there are but by its shape.
func TestCheckOfOtherPlaces(t *testing.T) {
	for _, n := range []int{1, 2, 3, 4, 5, 6, 7, 8, 9, 12, 16, 17, 21} {
		l := leaves(n)
		whole := logtree.Root(l)
		taken := 0
		for i := range n {
			p, _ := logtree.Path(l, i)
			for m := -1; m < 34; m++ {
				for j := -1; j < 34; j++ {
					h, ok := comes(m, j, l[i], p)
					want := ok && h == whole
					if got := logtree.Check(whole, m, j, l[i], p); got != want {
						t.Errorf("leaf %d of %d as %d of %d: %v", i, n, j, m, got)
					}
					if m == n && want != (i == j) {
						t.Errorf("leaf %d of %d is taken as %d", i, n, j)
					}
					if want {
						taken++
					}
				}
			}
		}
		if taken < n {
			t.Errorf("only %d of %d leaves are taken", taken, n)
		}
	}
}

// P8.2, P8.3: one bit that is turned over anywhere, a neighbour that is missing, doubled or elsewhere: nothing holds.
func TestCheckOfTampered(t *testing.T) {
	for _, n := range []int{1, 2, 3, 5, 8, 13, 16, 31} {
		l := leaves(n)
		whole := logtree.Root(l)
		for i := range n {
			p, _ := logtree.Path(l, i)
			for place := range 256 {
				refused(t, "another root", flipped(whole, place), n, i, l[i], p)
				refused(t, "another leaf", whole, n, i, flipped(l[i], place), p)
			}
			for k := range p {
				for _, place := range []int{0, 77, 255} {
					q := slices.Clone(p)
					q[k] = flipped(q[k], place)
					refused(t, "another neighbour", whole, n, i, l[i], q)
				}
				refused(t, "without a neighbour", whole, n, i, l[i], slices.Delete(slices.Clone(p), k, k+1))
				refused(t, "a neighbour twice", whole, n, i, l[i], slices.Insert(slices.Clone(p), k, p[k]))
				q := slices.Clone(p)
				h := l[i]
				q[k], h = h, q[k]
				refused(t, "leaf and neighbour changed about", whole, n, i, h, q)
				if k > 0 {
					q := slices.Clone(p)
					q[k-1], q[k] = q[k], q[k-1]
					refused(t, "neighbours changed about", whole, n, i, l[i], q)
				}
			}
			refused(t, "the root as a leaf", whole, n+1, i, whole, p)
			refused(t, "another one's", whole, n, i, logtree.Leaf(nil), p)
		}
	}
}

// P8.2 and DOC.md's rule 3: a Path is neither changed, nor is the room behind it, nor is that room read.
func TestCheckLeavesItsPath(t *testing.T) {
	l := leaves(11)
	whole := logtree.Root(l)
	for i := range l {
		p, _ := logtree.Path(l, i)
		room := append(slices.Clone(p), path(5)...)
		before := slices.Clone(room)
		if !logtree.Check(whole, 11, i, l[i], room[:len(p)]) {
			t.Errorf("leaf %d with room behind its Path is refused", i)
		}
		refused(t, "with the room read", whole, 11, i, l[i], room[:len(p)+1])
		refused(t, "with no neighbours and room behind", whole, 11, i, l[i], room[:0])
		if !slices.Equal(room, before) {
			t.Errorf("the Path of leaf %d or the room behind it is changed", i)
		}
	}
}

// others are logs that are l but for one thing, with what was done to it.
func others(l []api.Hash) map[string][]api.Hash {
	out := map[string][]api.Hash{"one more": append(slices.Clone(l), logtree.Leaf([]byte("more")))}
	for i := range l {
		q := slices.Clone(l)
		q[i] = logtree.Leaf(fmt.Append(nil, "other", i))
		out[fmt.Sprintf("another leaf %d", i)] = q
		out[fmt.Sprintf("without leaf %d", i)] = slices.Delete(slices.Clone(l), i, i+1)
		out[fmt.Sprintf("leaf %d twice", i)] = slices.Insert(slices.Clone(l), i, l[i])
		for j := range i {
			q := slices.Clone(l)
			q[i], q[j] = q[j], q[i]
			out[fmt.Sprintf("leaves %d and %d changed about", j, i)] = q
		}
	}
	return out
}

// P8.3: a root stands for one log alone: nothing that was said is taken back, changed, put elsewhere or ahead of it.
func TestRootIsOfOneLog(t *testing.T) {
	for _, n := range []int{0, 1, 2, 3, 4, 5, 7, 8, 9, 16, 17} {
		l := leaves(n)
		whole := logtree.Root(l)
		for name, q := range others(l) {
			if logtree.Root(q) == whole {
				t.Errorf("%d leaves, %s: the same root", n, name)
			}
			for i := range q {
				p, _ := logtree.Path(q, i)
				if i < n && q[i] == l[i] {
					continue
				}
				refused(t, name, whole, n, i, q[i], p)
				refused(t, name, whole, len(q), i, q[i], p)
			}
		}
	}
}

// P8.3: as a log grows its first leaves stay: a part that is full stays as it is, and so do the neighbours in it.
func TestGrowingKeepsFullParts(t *testing.T) {
	l := leaves(40)
	for full := 1; full <= 32; full *= 2 {
		part := logtree.Root(l[:full])
		for n := full + 1; n <= len(l); n++ {
			whole := logtree.Root(l[:n])
			for i := range full {
				elder, _ := logtree.Path(l[:full], i)
				newer, ok := logtree.Path(l[:n], i)
				if !ok || len(newer) <= len(elder) || !slices.Equal(newer[:len(elder)], elder) {
					t.Errorf("Path %d of %d doesn't begin with that of %d", i, n, full)
					continue
				}
				// The full part stands in the longer log as one leaf would, one of every so many.
				if !logtree.Check(whole, (n+full-1)/full, 0, part, newer[len(elder):]) {
					t.Errorf("%d leaves don't hold the root of their first %d", n, full)
				}
			}
		}
	}
}
