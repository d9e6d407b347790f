package grow_test

import (
	"encoding/hex"
	"fmt"
	"math"
	"slices"
	"testing"

	"postmark/api"
	"postmark/bin"
	"postmark/grow"
	"postmark/logtree"
	"postmark/sponge"
)

// what is a hash for a message.
func what(h api.Hash) string {
	return hex.EncodeToString(h[:])
}

// flipped is h with one bit turned over.
func flipped(h api.Hash, place int) api.Hash {
	h[place/8] ^= 0x80 >> (place % 8)
	return h
}

// leaves are n, all unlike.
func leaves(n int) []api.Hash {
	var l []api.Hash
	for i := range n {
		l = append(l, logtree.Leaf(fmt.Append(nil, "leaf", i)))
	}
	return l
}

// path is n hashes that are all unlike, and no leaves.
func path(n int) []api.Hash {
	var l []api.Hash
	for i := range n {
		l = append(l, sponge.Sum(bin.Num(uint64(i))))
	}
	return l
}

// node is logtree's Node by that chapter's words.
func node(l, r api.Hash) api.Hash {
	return sponge.Tag('N', l[:], r[:])
}

// levels are a log's hashes, level by level from the leaves up: two and two come to a node, one that is left goes up as it is. It is the same tree, seen from below.
func levels(l []api.Hash) [][]api.Hash {
	out := [][]api.Hash{l}
	for len(l) > 1 {
		var up []api.Hash
		for i := 0; i+1 < len(l); i += 2 {
			up = append(up, node(l[i], l[i+1]))
		}
		if len(l)%2 == 1 {
			up = append(up, l[len(l)-1])
		}
		out = append(out, up)
		l = up
	}
	return out
}

// root is logtree's Root of some leaves, by levels.
func root(l []api.Hash) api.Hash {
	all := levels(l)
	return all[len(all)-1][0]
}

// proof is Prove by levels: the greatest part that ends with the m-th leaf and is full (all of the elder log, if it is that: then it isn't told), and its neighbours on the way up.
func proof(l []api.Hash, m int) []api.Hash {
	var out []api.Hash
	if m == len(l) {
		return out
	}
	level, at := 0, m-1
	for at%2 == 1 {
		level, at = level+1, at/2
	}
	all := levels(l)
	if at > 0 {
		out = append(out, all[level][at])
	}
	for _, row := range all[level:] {
		if at^1 < len(row) {
			out = append(out, row[at^1])
		}
		at /= 2
	}
	return out
}

// long is how many hashes a Prove has of m of n leaves, by the chapter's words.
func long(m, n int) int {
	return longSub(m, n, true)
}

func longSub(m, n int, whole bool) int {
	if m == n && whole {
		return 0
	}
	if m == n {
		return 1
	}
	k := logtree.Split(n)
	if m > k {
		return 1 + longSub(m-k, n-k, false)
	}
	return 1 + longSub(m, k, whole)
}

// comes is what a path leads to, and whether it may be Prove of m of n leaves, from the top down, by the words of P9.1: sub of lengths alone. old is the elder root, as it is said to be.
func comes(old api.Hash, m, n int, path []api.Hash) (elder, newer api.Hash, ok bool) {
	if m < 1 || m > n || len(path) != long(m, n) {
		return api.Hash{}, api.Hash{}, false
	}
	elder, newer = comesSub(old, m, n, true, path)
	return elder, newer, true
}

func comesSub(old api.Hash, m, n int, whole bool, path []api.Hash) (elder, newer api.Hash) {
	if m == n && whole {
		return old, old
	}
	if m == n {
		return path[0], path[0]
	}
	rest, top := path[:len(path)-1], path[len(path)-1]
	k := logtree.Split(n)
	if m > k {
		elder, newer = comesSub(old, m-k, n-k, false, rest)
		return node(top, elder), node(top, newer)
	}
	elder, newer = comesSub(old, m, k, whole, rest)
	return elder, node(newer, top)
}

// refused fails the test if Check takes it.
func refused(t *testing.T, name string, old, new api.Hash, m, n int, path []api.Hash) {
	t.Helper()
	if grow.Check(old, new, m, n, path) {
		t.Errorf("%s: %d of %d, Prove of %d: taken", name, m, n, len(path))
	}
}

// great are lengths of logs that nobody has, and of elder ones at their edges.
func great() map[int][]int {
	out := map[int][]int{}
	for _, n := range []int{1<<20 - 1, 1 << 20, 1<<31 - 1, 1 << 31, 1<<31 + 1, 1 << 32, 1<<32 + 1, 1 << 40, 1<<62 - 1, 1 << 62, 1<<62 + 1, 1<<62 + 5, math.MaxInt - 1, math.MaxInt} {
		k := logtree.Split(n)
		out[n] = []int{1, 2, 3, k/2 - 1, k / 2, k/2 + 1, k - 1, k, k + (n-k)/2, n / 2, n / 3, n - 2, n - 1}
		if k+1 < n {
			out[n] = append(out[n], k+1)
		}
	}
	return out
}

// same fails the test unless got is the hashes that want spells.
func same(t *testing.T, name string, got []api.Hash, want []string) {
	t.Helper()
	if len(got) != len(want) {
		t.Errorf("%s: %d hashes, want %d", name, len(got), len(want))
		return
	}
	for i := range got {
		if what(got[i]) != want[i] {
			t.Errorf("%s, %d: %s, want %s", name, i, what(got[i]), want[i])
		}
	}
}

// P9.1: hashes that were worked out apart from the program, by the chapters' words alone.
func TestFixedProofs(t *testing.T) {
	for _, x := range []struct {
		n, m     int
		old, new string
		path     []string
	}{
		{2, 1, "5e1bf16d4a7d5cb5a385f67efed56b5090c6abb599739f50ab1be3431a434276", "7ebfdf1af88e7f52249c8e65b0308da6d682ba3e3840dace0ba262daab037075", []string{
			"f06ed860cc1752266c63da9d25fd0741f1c41f50bda92e3f872c76a69847ab51",
		}},
		{3, 2, "7ebfdf1af88e7f52249c8e65b0308da6d682ba3e3840dace0ba262daab037075", "8ecec910de1485a5615343d19fce4efc2fd71f28b802e509f2ae6db253bd9ab3", []string{
			"2f17a655e66c97bff116ac04866b255e45b86839cb112f849a87c6490558853f",
		}},
		{7, 3, "8ecec910de1485a5615343d19fce4efc2fd71f28b802e509f2ae6db253bd9ab3", "2b1bc57be7d62ce21e9fc19f4cc521ac9fb8833063415395d84bf513ed4412e5", []string{
			"2f17a655e66c97bff116ac04866b255e45b86839cb112f849a87c6490558853f",
			"1c495318250ef964191c78c75b4c540f06d90d8b4ec84e6fb8d70276584f983e",
			"7ebfdf1af88e7f52249c8e65b0308da6d682ba3e3840dace0ba262daab037075",
			"31e30f168e519b38935b13a996aa2fbd4abacf1c6e8ef8a8765c72f2539f72d5",
		}},
		{8, 6, "a16d2b97d70d58133d60d43277ce598fdf24531449acc5c42642bca88691d42b", "470d3ac052e29b0b1708db010242f394ae038021273d5a37b1445530e0241162", []string{
			"6969977f47c12b273473b2e3727ccf09ae150c55ebdac71184b2b6ff787dc2c9",
			"e78141cf83e3a2bd1a8dd8dfcecdd42fe87095c55658c56479e5d709a5341ac7",
			"5907fb29945af976b446c3d604d31e7acf7b6dd0a7eba9b2d8b0689a233929c2",
		}},
		{13, 8, "470d3ac052e29b0b1708db010242f394ae038021273d5a37b1445530e0241162", "e963568a3ce22e5464ad5a3b6071250ee6da8a773d4f776515f871771713f676", []string{
			"e0e6c9a519744a94ce93d4e220b0e36295aa331be9353aca7436b90a41b84210",
		}},
		{13, 9, "d2d18201a953a54cb0f51a595cbc62bb0b9f5c657c22886f061c085f644d4846", "e963568a3ce22e5464ad5a3b6071250ee6da8a773d4f776515f871771713f676", []string{
			"1a69ae56d9a4ed83f1d85e51dbe093e09f3c34e6d5bf943655ca401d068d5f01",
			"f3605bd03b52d632df0db46e478236b44b3fa0bb205936b8705b6132ec057d0e",
			"3517a6c6913e3e2822a983787b9599157e4351609656b6e74846c5191000e89e",
			"895e4c02815a7f920e40c3ddcda0464344ef27a9bcd02bb99caa5bebc7fcdd08",
			"470d3ac052e29b0b1708db010242f394ae038021273d5a37b1445530e0241162",
		}},
		{13, 12, "9da01551885bf47c2416d54e3087ae9e6ece719aab709ae998bee5692455017e", "e963568a3ce22e5464ad5a3b6071250ee6da8a773d4f776515f871771713f676", []string{
			"8fcdc37c306f43af1fb5e34c6ed43230d8f523a0c0b3d38e604e7ae0fcff742c",
			"895e4c02815a7f920e40c3ddcda0464344ef27a9bcd02bb99caa5bebc7fcdd08",
			"470d3ac052e29b0b1708db010242f394ae038021273d5a37b1445530e0241162",
		}},
		{100, 37, "a94c12c65fe0018b032dc1f5a8464ef74d7308680331b0a0ded57d76cdacb361", "ba6d16a2c0eb8d69d69db1041a297be33010b6c87d31256d91261871a43e044a", []string{
			"6280e3664cddd19f1f9d536e9b327a63c2f365f884f1da44b2cedc0dcae7ae25",
			"4f13311d83e449191adad67222d8e84193f84149de3a548ed5b2456e1d149549",
			"3eb17bf5c998eaf469dfaa11a79ee4a3d96582366667456194efc75e38d5da7a",
			"41e0e530324d435e5fad97c4db58cb12930677bcdc0123703740387393b76dd5",
			"19987ab7117e4a8fcd310e11441d8b70157d13712bd0b9243e703b64f93e4a4b",
			"3ce1e10f6231f54d6c39b27be0b2acee618a7e336419b2510a9b22d931fb6703",
			"08f4bca61fc33a3aa44bb56df2f70a962ee66bc1deb61533bb67cba04444fd5d",
			"6fa3b91ae929a5f85481f344c6ab2c0bae2abaa2cfb5d8fc6ccaf0eec46eeba4",
		}},
	} {
		name := fmt.Sprintf("%d of %d", x.m, x.n)
		got, ok := grow.Prove(leaves(x.n), x.m)
		if !ok {
			t.Errorf("Prove %s: false", name)
		}
		same(t, "Prove "+name, got, x.path)
		old, _ := hex.DecodeString(x.old)
		new, _ := hex.DecodeString(x.new)
		if !grow.Check(api.Hash(old), api.Hash(new), x.m, x.n, got) {
			t.Errorf("Check %s: refused", name)
		}
	}
}

// P9.1: as RFC 6962, 2.1.3 draws it, of the first lengths, each as the words have it.
func TestProveOfFew(t *testing.T) {
	l := leaves(8)
	a, b, c, d := node(l[0], l[1]), node(l[2], l[3]), node(l[4], l[5]), node(l[6], l[7])
	ab := node(a, b)
	for _, x := range []struct {
		n, m int
		want []api.Hash
	}{
		{1, 1, nil},
		{2, 1, []api.Hash{l[1]}},
		{2, 2, nil},
		{3, 1, []api.Hash{l[1], l[2]}},
		{3, 2, []api.Hash{l[2]}},
		{3, 3, nil},
		{4, 1, []api.Hash{l[1], b}},
		{4, 2, []api.Hash{b}},
		{4, 3, []api.Hash{l[2], l[3], a}},
		{5, 3, []api.Hash{l[2], l[3], a, l[4]}},
		{5, 4, []api.Hash{l[4]}},
		{6, 4, []api.Hash{c}},
		{6, 5, []api.Hash{l[4], l[5], ab}},
		{7, 3, []api.Hash{l[2], l[3], a, node(c, l[6])}},
		{7, 4, []api.Hash{node(c, l[6])}},
		{7, 5, []api.Hash{l[4], l[5], l[6], ab}},
		{7, 6, []api.Hash{c, l[6], ab}},
		{7, 7, nil},
		{8, 5, []api.Hash{l[4], l[5], d, ab}},
		{8, 6, []api.Hash{c, d, ab}},
		{8, 7, []api.Hash{l[6], l[7], c, ab}},
		{8, 8, nil},
	} {
		if got, ok := grow.Prove(l[:x.n], x.m); !ok || !slices.Equal(got, x.want) {
			t.Errorf("Prove %d of %d: %x, %v, want %x", x.m, x.n, got, ok, x.want)
		}
	}
}

// P9.1, P9.2: of each elder length of logs of all lengths, and Check takes it.
func TestProveOfAllLengths(t *testing.T) {
	lengths := []int{127, 128, 129, 200, 255, 256, 257}
	for n := 1; n <= 50; n++ {
		lengths = append(lengths, n)
	}
	all := leaves(257)
	for _, n := range lengths {
		l := all[:n]
		whole := root(l)
		for m := 1; m <= n; m++ {
			got, ok := grow.Prove(l, m)
			if !ok || !slices.Equal(got, proof(l, m)) || len(got) != long(m, n) {
				t.Errorf("Prove %d of %d: %x, %v", m, n, got, ok)
			}
			if !grow.Check(root(l[:m]), whole, m, n, got) {
				t.Errorf("Check refuses %d of %d", m, n)
			}
		}
	}
}

// P9.1: hashes are what they are handed in as: leaves that are alike, or that are no leaf's, are proved as others are.
func TestProveOfLikeLeaves(t *testing.T) {
	for _, h := range []api.Hash{{}, sponge.Tag('E'), logtree.Leaf(nil)} {
		for n := 1; n <= 17; n++ {
			l := slices.Repeat([]api.Hash{h}, n)
			for m := 1; m <= n; m++ {
				got, ok := grow.Prove(l, m)
				if !ok || !slices.Equal(got, proof(l, m)) || !grow.Check(root(l[:m]), root(l), m, n, got) {
					t.Errorf("Prove %d of %d of one hash: %x, %v", m, n, got, ok)
				}
			}
		}
	}
}

// P9.1: m is 1 to len(l), and no room behind the list makes it longer.
func TestProveOfNoElder(t *testing.T) {
	for n := range 20 {
		l := append(leaves(n), path(3)...)[:n]
		for _, m := range []int{n + 1, n + 2, n + 3, 64, 1 << 32, 1 << 62, math.MaxInt, 0, -1, -2, -n - 1, -1 << 32, math.MinInt, math.MinInt + 1} {
			if got, ok := grow.Prove(l, m); ok || len(got) > 0 {
				t.Errorf("Prove %d of %d: %x, %v", m, n, got, ok)
			}
		}
	}
	for _, m := range []int{0, 1, -1} {
		if got, ok := grow.Prove(nil, m); ok || len(got) > 0 {
			t.Errorf("Prove %d of nil: %x, %v", m, got, ok)
		}
	}
}

// P9.1 and DOC.md's rule 3: neither the list nor the room behind it is changed, that room isn't read, and what is answered shares nothing.
func TestProveLeavesItsList(t *testing.T) {
	for n := 1; n < 20; n++ {
		room := append(leaves(n), path(5)...)
		before := slices.Clone(room)
		l := room[:n]
		for m := 1; m <= n; m++ {
			want := proof(before[:n], m)
			first, _ := grow.Prove(l, m)
			again, _ := grow.Prove(l, m)
			clear(again[:cap(again)])
			if !slices.Equal(room, before) || !slices.Equal(first, want) {
				t.Fatalf("Prove %d of %d reads behind its list, changes it, or shares memory", m, n)
			}
			clear(room)
			if !slices.Equal(first, want) {
				t.Fatalf("Prove %d of %d is changed with its list", m, n)
			}
			copy(room, before)
		}
	}
}

// P9.2: m is n: the path is none, and both roots are one; however great they are.
func TestCheckOfAll(t *testing.T) {
	x, y := sponge.Sum([]byte("x")), sponge.Sum([]byte("y"))
	for _, n := range []int{1, 2, 3, 4, 5, 7, 8, 1 << 31, 1<<62 - 1, 1 << 62, 1<<62 + 1, math.MaxInt - 1, math.MaxInt} {
		for _, h := range []api.Hash{x, {}, sponge.Tag('E')} {
			if !grow.Check(h, h, n, n, nil) || !grow.Check(h, h, n, n, []api.Hash{}) {
				t.Errorf("all of %d: refused", n)
			}
			refused(t, "a path of one", h, h, n, n, []api.Hash{h})
			refused(t, "a path of one", h, h, n, n, []api.Hash{y})
			refused(t, "a path of one to a root", h, node(h, y), n, n, []api.Hash{y})
			refused(t, "a path of one to a root", h, node(y, h), n, n, []api.Hash{y})
			refused(t, "a path of noughts", h, h, n, n, make([]api.Hash, 63))
			refused(t, "another root", h, y, n, n, nil)
			refused(t, "another root", y, h, n, n, nil)
			for place := range 256 {
				refused(t, "another bit", h, flipped(h, place), n, n, nil)
			}
		}
	}
}

// P9.2: m is 1 to n, whatever the rest comes to.
func TestCheckOfNoElder(t *testing.T) {
	x := sponge.Sum([]byte("x"))
	for _, h := range []api.Hash{x, sponge.Tag('E'), {}} {
		for _, n := range []int{0, -1, -2, 1, 2, 3, 7, 8, 1 << 32, 1 << 62, math.MaxInt, math.MinInt, math.MinInt + 1} {
			for _, m := range []int{0, -1, -2, -7, -8, -n, n + 1, 2*n + 1, math.MinInt, math.MinInt + 1} {
				if m >= 1 && m <= n {
					continue
				}
				up := h
				for size := range 66 {
					p := slices.Repeat([]api.Hash{h}, size)
					refused(t, "no elder", h, h, m, n, p)
					refused(t, "no elder", h, up, m, n, p)
					refused(t, "no elder", up, up, m, n, p)
					refused(t, "no elder", up, h, m, n, p)
					up = node(up, up)
				}
			}
		}
	}
	l := leaves(9)
	for n := 1; n <= 9; n++ {
		for m := 1; m < n; m++ {
			p, _ := grow.Prove(l[:n], m)
			refused(t, "the newer one ahead", root(l[:n]), root(l[:m]), n, m, p)
			refused(t, "of none", sponge.Tag('E'), root(l[:n]), 0, n, p)
		}
		refused(t, "of none", sponge.Tag('E'), root(l[:n]), 0, n, nil)
		refused(t, "of none", sponge.Tag('E'), root(l[:n]), 0, n, []api.Hash{root(l[:n])})
	}
	refused(t, "none of none", sponge.Tag('E'), sponge.Tag('E'), 0, 0, nil)
}

// P9.2: as logs of so many leaves have it, up to the greatest length.
func TestCheckOfGreatLogs(t *testing.T) {
	most := 0
	for n, elders := range great() {
		for _, m := range elders {
			p := path(long(m, n))
			most = max(most, len(p))
			// Of a full elder log any root will do, of another one that alone which the path leads to.
			old, new, ok := comes(sponge.Sum(nil), m, n, p)
			if !ok || !grow.Check(old, new, m, n, p) {
				t.Errorf("%d of %d, Prove of %d: refused", m, n, len(p))
				continue
			}
			refused(t, "another root", old, flipped(new, m%256), m, n, p)
			refused(t, "another elder root", flipped(old, m%256), new, m, n, p)
			refused(t, "a hash less", old, new, m, n, p[1:])
			refused(t, "a hash less", old, new, m, n, p[:len(p)-1])
			refused(t, "none", old, new, m, n, nil)
			refused(t, "a hash more", old, new, m, n, append(slices.Clone(p), p[0]))
			refused(t, "a hash more", old, new, m, n, append([]api.Hash{old}, p...))
			refused(t, "a thousand hashes", old, new, m, n, path(1000))
			if len(p) > 1 {
				turned := slices.Clone(p)
				slices.Reverse(turned)
				refused(t, "turned round", old, new, m, n, turned)
			}
		}
	}
	if most != 64 {
		t.Errorf("the longest of these Proves has %d hashes", most)
	}
}

// P9.2: as many hashes as Prove tells, no more and no fewer, though what is there leads to roots.
func TestCheckOfEachLength(t *testing.T) {
	x := sponge.Sum([]byte("x"))
	for n := 2; n <= 20; n++ {
		for m := 1; m < n; m++ {
			for size := range 10 {
				for _, p := range [][]api.Hash{path(size), slices.Repeat([]api.Hash{x}, size)} {
					old, new, ok := comes(x, m, n, p)
					if got := grow.Check(old, new, m, n, p); got != ok {
						t.Errorf("%d of %d, Prove of %d: %v", m, n, size, got)
					}
				}
			}
		}
	}
}

// others are lists that are p but for a hash that is missing, doubled, new or elsewhere.
func others(p []api.Hash) map[string][]api.Hash {
	out := map[string][]api.Hash{
		"one more at the end":       append(slices.Clone(p), api.Hash{}),
		"one more at the beginning": append([]api.Hash{{}}, p...),
		"twice":                     append(slices.Clone(p), p...),
	}
	for i := range p {
		out[fmt.Sprintf("without %d", i)] = slices.Delete(slices.Clone(p), i, i+1)
		out[fmt.Sprintf("with %d twice", i)] = slices.Insert(slices.Clone(p), i, p[i])
		for _, place := range []int{0, 77, 255} {
			q := slices.Clone(p)
			q[i] = flipped(q[i], place)
			out[fmt.Sprintf("with bit %d of %d turned over", place, i)] = q
		}
		for j := range i {
			q := slices.Clone(p)
			q[i], q[j] = q[j], q[i]
			out[fmt.Sprintf("with %d and %d changed about", j, i)] = q
		}
	}
	return out
}

// P9.2: every part of every hash counts: of both roots, and of each one of the path.
func TestCheckOfTampered(t *testing.T) {
	for _, n := range []int{2, 3, 4, 5, 7, 8, 13, 16, 21} {
		l := leaves(n)
		new := root(l)
		for m := 1; m < n; m++ {
			old := root(l[:m])
			p, _ := grow.Prove(l, m)
			for place := range 256 {
				refused(t, "another root", old, flipped(new, place), m, n, p)
				refused(t, "another elder root", flipped(old, place), new, m, n, p)
			}
			for name, q := range others(p) {
				refused(t, name, old, new, m, n, q)
			}
			refused(t, "with both roots the new one", new, new, m, n, p)
			refused(t, "with both roots the old one", old, old, m, n, p)
			refused(t, "with the old root ahead of its path", old, new, m, n, append([]api.Hash{old}, p...))
			refused(t, "with no root", api.Hash{}, new, m, n, p)
			refused(t, "with no root", old, api.Hash{}, m, n, p)
		}
	}
}

// P9.2: whatever is asked, Check says what sub of such lengths would; a Prove says nothing of m and n but by its shape.
func TestCheckOfOtherLengths(t *testing.T) {
	for _, n := range []int{1, 2, 3, 4, 5, 6, 7, 8, 9, 12, 16, 17} {
		l := leaves(n)
		new := root(l)
		for m := 1; m <= n; m++ {
			old := root(l[:m])
			p, _ := grow.Prove(l, m)
			for b := -1; b < 34; b++ {
				for a := -1; a < 34; a++ {
					elder, newer, ok := comes(old, a, b, p)
					want := ok && elder == old && newer == new
					if got := grow.Check(old, new, a, b, p); got != want {
						t.Errorf("%d of %d as %d of %d: %v", m, n, a, b, got)
					}
					if b == n && want != (a == m) {
						t.Errorf("%d of %d is taken as %d", m, n, a)
					}
				}
			}
		}
	}
}

// P9.2 and DOC.md's rule 3: a path is neither changed, nor is the room behind it, nor is that room read.
func TestCheckLeavesItsPath(t *testing.T) {
	l := leaves(13)
	new := root(l)
	for m := 1; m <= len(l); m++ {
		old := root(l[:m])
		p, _ := grow.Prove(l, m)
		room := append(slices.Clone(p), path(5)...)
		before := slices.Clone(room)
		if !grow.Check(old, new, m, len(l), room[:len(p)]) {
			t.Errorf("%d of %d with room behind its path is refused", m, len(l))
		}
		refused(t, "with the room read", old, new, m, len(l), room[:len(p)+1])
		if m < len(l) {
			refused(t, "with none and room behind", old, new, m, len(l), room[:0])
			refused(t, "with less and room behind", old, new, m, len(l), room[:len(p)-1])
		}
		if !slices.Equal(room, before) {
			t.Errorf("the path of %d or the room behind it is changed", m)
		}
	}
}

// forgot are logs that don't begin with the first m of l, with what was done to them.
func forgot(l []api.Hash, m int) map[string][]api.Hash {
	out := map[string][]api.Hash{}
	for i := range m {
		q := slices.Clone(l)
		q[i] = logtree.Leaf(fmt.Append(nil, "other", i))
		out[fmt.Sprintf("another leaf %d", i)] = q
		out[fmt.Sprintf("without leaf %d", i)] = append(slices.Delete(slices.Clone(l), i, i+1), logtree.Leaf([]byte("more")))
		out[fmt.Sprintf("one more ahead of leaf %d", i)] = slices.Insert(slices.Clone(l), i, logtree.Leaf([]byte("more")))[:len(l)]
		for j := range i {
			q := slices.Clone(l)
			q[i], q[j] = q[j], q[i]
			out[fmt.Sprintf("leaves %d and %d changed about", j, i)] = q
		}
	}
	return out
}

// P9.3: who changes, leaves out, puts elsewhere or ahead what was published finds no path among those that there are.
func TestNobodyForgets(t *testing.T) {
	for _, n := range []int{1, 2, 3, 4, 5, 7, 8, 9, 16, 17} {
		l := leaves(n)
		for m := 1; m <= n; m++ {
			old := root(l[:m])
			honest, _ := grow.Prove(l, m)
			for name, q := range forgot(l, m) {
				new := root(q)
				refused(t, name, old, new, m, n, honest)
				for k := 1; k <= n; k++ {
					p, _ := grow.Prove(q, k)
					refused(t, fmt.Sprint(name, ", the path of ", k), old, new, m, n, p)
					refused(t, fmt.Sprint(name, ", with the old root, the path of ", k), old, new, m, n, append([]api.Hash{old}, p...))
				}
			}
		}
	}
}

// known are all hashes of a log's tree, and the roots of all that it was before.
func known(l []api.Hash) []api.Hash {
	out := slices.Concat(levels(l)...)
	for m := range l {
		out = append(out, root(l[:m+1]))
	}
	return out
}

// lists calls f with all lists of exactly n of a pool's hashes, each any number of times.
func lists(pool []api.Hash, n int, f func(p []api.Hash)) {
	p := make([]api.Hash, n)
	var fill func(i int)
	fill = func(i int) {
		if i == n {
			f(p)
			return
		}
		for _, h := range pool {
			p[i] = h
			fill(i + 1)
		}
	}
	fill(0)
}

// P9.2, P9.3: of all lists of the hashes of two small logs, which part after m leaves, none leads from what was published to the other log; and one alone leads to the log itself: Prove's.
func TestAllSmallPaths(t *testing.T) {
	for n := 2; n <= 5; n++ {
		l := leaves(n)
		for m := 1; m < n; m++ {
			old, new := root(l[:m]), root(l)
			other := slices.Clone(l)
			other[m-1] = logtree.Leaf([]byte("other"))
			pool := append(known(l), known(other)...)
			slices.SortFunc(pool, func(a, b api.Hash) int { return slices.Compare(a[:], b[:]) })
			pool = slices.Compact(pool)
			want, _ := grow.Prove(l, m)
			taken := 0
			for size := range 4 {
				lists(pool, size, func(p []api.Hash) {
					refused(t, "forgotten", old, root(other), m, n, p)
					if grow.Check(old, new, m, n, p) {
						taken++
						if !slices.Equal(p, want) {
							t.Errorf("%d of %d: %x is taken", m, n, p)
						}
					}
				})
			}
			if len(want) < 4 && taken != 1 {
				t.Errorf("%d of %d: %d lists are taken", m, n, taken)
			}
		}
	}
}

// P9.3: as a log grows, each of all that it was is still in what it is, with what stood in it where it stood.
func TestWhatWasIsThere(t *testing.T) {
	l := leaves(33)
	for n := 1; n <= len(l); n++ {
		new := logtree.Root(l[:n])
		for m := 1; m <= n; m++ {
			p, ok := grow.Prove(l[:n], m)
			if !ok || !grow.Check(logtree.Root(l[:m]), new, m, n, p) {
				t.Errorf("%d of %d: refused", m, n)
			}
		}
		for i := range n {
			p, ok := logtree.Path(l[:n], i)
			if !ok || !logtree.Check(new, n, i, l[i], p) {
				t.Errorf("leaf %d isn't in its place of %d", i, n)
			}
		}
	}
}
