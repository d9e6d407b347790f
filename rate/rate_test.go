package rate_test

import (
	"fmt"
	"math"
	"math/rand"
	"strings"
	"testing"
	"unsafe"

	"postmark/rate"
)

const maxTick = 1 << 60

// has fails the test unless Left of that name, at that tick, is want.
func has(t *testing.T, what string, r *rate.Rate, name string, now int64, want int) {
	t.Helper()
	if got := r.Left(name, now); got != want {
		t.Errorf("%s: Left(%.40q, %d) is %d, want %d", what, name, now, got, want)
	}
}

// takes fails the test unless n Takes of that name, at that tick, are true.
func takes(t *testing.T, what string, r *rate.Rate, name string, now int64, n int) {
	t.Helper()
	for i := range n {
		if !r.Take(name, now) {
			t.Errorf("%s: Take %d of %.40q at %d is false", what, i, name, now)
		}
	}
}

// refuses fails the test unless a Take of that name, at that tick, is false.
func refuses(t *testing.T, what string, r *rate.Rate, name string, now int64) {
	t.Helper()
	if r.Take(name, now) {
		t.Errorf("%s: Take of %.40q at %d is true", what, name, now)
	}
}

// taken is a new Rate of which n were taken of "a" at that tick.
func taken(t *testing.T, now int64, n int) *rate.Rate {
	t.Helper()
	r := rate.New()
	takes(t, "at first", r, "a", now, n)
	return r
}

func names() []string {
	return []string{"a", "b", "ab", "A", "", " ", "\x00", "a\x00", "\xff", "\xfe", "\xef\xbf\xbd", "\xc3\xa4", "?", strings.Repeat("x", 32), strings.Repeat("x", 33), strings.Repeat("y", 100000)}
}

func ticks() []int64 {
	return append(below(), 0, 1, 2, 3, 4, 100, 1<<31, 1<<32, maxTick-1, maxTick, maxTick+1, math.MaxInt64-1, math.MaxInt64)
}

// below: ticks below 0.
func below() []int64 {
	return []int64{-1, -2, -3, -1 << 32, -maxTick, math.MinInt64 + 1, math.MinInt64}
}

// P18.1: a name has Burst at first, whatever it is and whatever the tick; each Take makes it one less, the fifth at once is false.
func TestBurstAtFirst(t *testing.T) {
	for _, name := range names() {
		for _, now := range ticks() {
			r := rate.New()
			for n := 4; n > 0; n-- {
				has(t, "at first", r, name, now, n)
				takes(t, "at first", r, name, now, 1)
			}
			has(t, "behind four", r, name, now, 0)
			for range 3 {
				refuses(t, "behind four", r, name, now)
				has(t, "behind a fifth", r, name, now, 0)
			}
		}
	}
}

// P18.1: no Left is needed ahead of a Take, nor between Takes.
func TestTakeAlone(t *testing.T) {
	for _, now := range ticks() {
		r := taken(t, now, 4)
		refuses(t, "the fifth", r, "a", now)
		refuses(t, "the sixth", r, "a", now)
	}
}

// P18.1: each Refill ticks it has one more, up to Burst: asked at one tick alone, and at all of them in a row.
func TestRefill(t *testing.T) {
	for _, from := range []int64{0, 1, 2, 3, 17, 1 << 40, maxTick - 40} {
		for n := range 5 {
			row := taken(t, from, n)
			for d := range 30 {
				now, want := from+int64(d), min(4, 4-n+d/3)
				has(t, "asked once", taken(t, from, n), "a", now, want)
				has(t, "asked in a row", row, "a", now, want)
				r := taken(t, from, n)
				takes(t, "what is there again", r, "a", now, want)
				refuses(t, "what isn't there", r, "a", now)
			}
		}
	}
}

// P18.1: the ticks count from the Take that made it fewer than Burst, not from a later one.
func TestCountedFromTheFirstTake(t *testing.T) {
	for _, x := range []struct {
		takes []int64 // one Take at each
		left  []int   // at the last of these ticks, and at those behind it
	}{
		{[]int64{10, 10}, []int{2, 2, 2, 3, 3, 3, 4, 4}},
		{[]int64{10, 11}, []int{2, 2, 3, 3, 3, 4, 4}},
		{[]int64{10, 12}, []int{2, 3, 3, 3, 4, 4}},
		{[]int64{10, 11, 12}, []int{1, 2, 2, 2, 3, 3, 3, 4, 4}},
		{[]int64{10, 10, 10, 12}, []int{0, 1, 1, 1, 2, 2, 2, 3, 3, 3, 4, 4}},
		{[]int64{10, 10, 10, 10, 13}, []int{0, 0, 0, 1, 1, 1, 2, 2, 2, 3, 3, 3, 4, 4}},
		{[]int64{10, 10, 10, 10, 14}, []int{0, 0, 1, 1, 1, 2, 2, 2, 3, 3, 3, 4, 4}},
		{[]int64{10, 10, 10, 10, 15}, []int{0, 1, 1, 1, 2, 2, 2, 3, 3, 3, 4, 4}},
		{[]int64{10, 10, 14}, []int{2, 2, 3, 3, 3, 4, 4}},
		{[]int64{10, 10, 15, 17}, []int{2, 2, 3, 3, 3, 4, 4}},
		{[]int64{10, 10, 10, 10, 21}, []int{2, 3, 3, 3, 4, 4}},
	} {
		r := rate.New()
		for _, now := range x.takes {
			takes(t, fmt.Sprint("of ", x.takes), r, "a", now, 1)
		}
		for i, want := range x.left {
			has(t, fmt.Sprint("behind ", x.takes), r, "a", x.takes[len(x.takes)-1]+int64(i), want)
		}
	}
}

// P18.1: of a name that has Burst again the ticks count anew, from the Take that makes it fewer; none of those in between are saved up.
func TestCountedAnew(t *testing.T) {
	for n := 1; n <= 4; n++ {
		for wait := range int64(20) {
			full := 10 + 3*int64(n)
			now := full + wait
			r := taken(t, 10, n)
			has(t, "just ahead of Burst", r, "a", full-1, 3)
			if wait%2 == 0 {
				has(t, "Burst again", r, "a", now, 4)
			}
			takes(t, "Burst again", r, "a", now, 1)
			for d, want := range []int{3, 3, 3, 4, 4, 4, 4, 4} {
				has(t, "counted anew", r, "a", now+int64(d), want)
			}
		}
	}
	r := taken(t, 5, 1)
	takes(t, "long behind", r, "a", 1<<50, 4)
	refuses(t, "no more than Burst is saved", r, "a", 1<<50)
	has(t, "counted anew", r, "a", 1<<50+2, 0)
	has(t, "counted anew", r, "a", 1<<50+3, 1)
}

// P18.1: a Take that is false is nothing: neither is one owed, nor are ticks counted from it.
func TestFalseIsNothing(t *testing.T) {
	for at := range int64(3) {
		r := taken(t, 10, 4)
		for range 50 {
			refuses(t, "none is left", r, "a", 10+at)
		}
		for d := at; d < 30; d++ {
			has(t, "behind false ones", r, "a", 10+d, min(4, int(d)/3))
		}
	}
	r := taken(t, 10, 4)
	for now := int64(10); now < 100; now++ {
		if (now-10)%3 == 0 && now > 10 {
			takes(t, "each third tick", r, "a", now, 1)
		}
		refuses(t, "all others", r, "a", now)
	}
}

// P18.1: ticks below 0 count as 0.
func TestTicksBelowNought(t *testing.T) {
	for _, now := range below() {
		r := taken(t, now, 4)
		for _, low := range append(below(), 0, 1, 2) {
			has(t, "below 0", r, "a", low, 0)
			refuses(t, "below 0", r, "a", low)
		}
		has(t, "Refill behind 0", r, "a", 3, 1)
		has(t, "three Refill behind 0", r, "a", 11, 3)
		has(t, "four Refill behind 0", r, "a", 12, 4)
		has(t, "told at first", r, "b", now, 4)
		takes(t, "told below 0", r, "b", 1, 1)
		has(t, "counted from 1", r, "b", 3, 3)
		has(t, "counted from 1", r, "b", 4, 4)
	}
}

// P18.1: ticks above MaxTick count as MaxTick: time ends there.
func TestTicksAboveTheLast(t *testing.T) {
	for _, last := range []int64{maxTick, maxTick + 1, maxTick + 3, maxTick + 12, maxTick + 1000, math.MaxInt64 - 1, math.MaxInt64} {
		for from, want := range []int{0, 0, 0, 1, 1, 1, 2, 2, 2, 3, 3, 3, 4, 4} {
			r := taken(t, maxTick-int64(from), 4)
			has(t, fmt.Sprint("taken ", from, " ahead of the last tick"), r, "a", last, want)
			takes(t, "what is left", r, "a", last, want)
			for _, later := range []int64{maxTick, last, math.MaxInt64} {
				refuses(t, "time has ended", r, "a", later)
				has(t, "time has ended", r, "a", later, 0)
			}
		}
	}
}

// P18.1: a tick below what was told last of a name counts as that, whichever call told it.
func TestTicksThatGoBack(t *testing.T) {
	for _, back := range []int64{99, 50, 1, 0, -1, math.MinInt64} {
		r := rate.New()
		has(t, "told by Left", r, "a", 100, 4)
		takes(t, "a tick that goes back", r, "a", back, 4)
		refuses(t, "a tick that goes back", r, "a", back)
		has(t, "counted from what was told", r, "a", 102, 0)
		has(t, "counted from what was told", r, "a", 103, 1)
		has(t, "no less by going back", r, "a", back, 1)
		has(t, "no less by going back", r, "a", 102, 1)
		takes(t, "no less by going back", r, "a", back, 1)
		has(t, "told by Left", r, "a", 105, 0)
		has(t, "told by Left", r, "a", 106, 1)

		r = taken(t, 100, 2)
		takes(t, "told by Take", r, "a", back, 1)
		has(t, "told by Take", r, "a", back, 1)
		has(t, "told by Take", r, "a", 103, 2)
		takes(t, "told by Take", r, "a", 200, 1)
		takes(t, "a tick that goes back", r, "a", back, 1)
		has(t, "Burst was told", r, "a", 202, 2)
		has(t, "Burst was told", r, "a", 203, 3)
	}
	r := rate.New()
	for _, now := range []int64{20, 53, 5, 20, 52} {
		r.Left("a", now)
	}
	takes(t, "of 20, 53, 5, 20, 52 told is 53", r, "a", 30, 1)
	has(t, "of 20, 53, 5, 20, 52 told is 53", r, "a", 55, 3)
	has(t, "of 20, 53, 5, 20, 52 told is 53", r, "a", 56, 4)
	r = taken(t, 100, 4)
	refuses(t, "a false one", r, "a", 102)
	has(t, "behind a false one", r, "a", 101, 0)
	has(t, "behind a false one", r, "a", 103, 1)
	has(t, "told the last tick", r, "a", math.MaxInt64, 4)
	takes(t, "told the last tick", r, "a", 5, 4)
	has(t, "told the last tick", r, "a", maxTick, 0)
}

// P18.1: Left takes nothing, however often it is asked: a Rate that is asked at each tick and one that isn't say the same.
func TestLeftTakesNothing(t *testing.T) {
	r := rand.New(rand.NewSource(181))
	for range 200 {
		asked, plain := rate.New(), rate.New()
		for now := range int64(100) {
			for i := range r.Intn(4) {
				asked.Left("a", now-int64(i))
				asked.Left("b", now)
			}
			if r.Intn(3) > 0 {
				continue
			}
			if a, b := asked.Take("a", now), plain.Take("a", now); a != b {
				t.Fatalf("Take at %d is %v where Left was asked, else %v", now, a, b)
			}
		}
	}
}

// P18.1: names differ in each byte, and each has its own ones and its own ticks.
func TestNamesAreApart(t *testing.T) {
	for i, name := range names() {
		r := rate.New()
		takes(t, "one of all", r, name, 100, 4)
		for j, other := range names() {
			if j == i {
				continue
			}
			has(t, "another one", r, other, 1, 4)
			takes(t, "another one's tick", r, other, 1, 2)
			has(t, "another one's tick", r, other, 3, 2)
			has(t, "another one's tick", r, other, 4, 3)
		}
		has(t, "one of all", r, name, 100, 0)
		has(t, "one of all", r, name, 103, 1)
	}
}

// P18.1: each Rate is one of its own.
func TestRatesAreApart(t *testing.T) {
	a, b := rate.New(), rate.New()
	takes(t, "one Rate", a, "a", 100, 4)
	has(t, "another Rate", b, "a", 0, 4)
	takes(t, "another Rate", b, "a", 0, 4)
	has(t, "another Rate", b, "a", 3, 1)
	has(t, "one Rate", a, "a", 0, 0)
	has(t, "a third Rate", rate.New(), "a", 0, 4)
}

// count is one name by the chapter's words alone.
type count struct {
	n           int
	told, since int64 // since: the Take that made it fewer than Burst
}

// words is a Rate by the chapter's words alone, that goes from tick to tick.
type words map[string]*count

func (w words) at(name string, now int64) *count {
	now = max(0, min(now, 1<<60))
	c := w[name]
	if c == nil {
		c = &count{n: 4, told: now}
		w[name] = c
	}
	for c.told < now && c.n < 4 {
		c.told++
		if (c.told-c.since)%3 == 0 {
			c.n++
		}
	}
	c.told = max(c.told, now)
	return c
}

func (w words) take(name string, now int64) bool {
	c := w.at(name, now)
	if c.n == 0 {
		return false
	}
	if c.n == 4 {
		c.since = c.told
	}
	c.n--
	return true
}

// P18.1: long rows of calls, each held against the chapter's words.
func TestByChance(t *testing.T) {
	r := rand.New(rand.NewSource(182))
	seen := map[string]int{}
	for range 400 {
		base := []int64{-50, -5, 0, 1, 1000, 1 << 40, maxTick - 400, maxTick - 100, maxTick}[r.Intn(9)]
		step, some := []int{1, 2, 3, 8}[r.Intn(4)], names()[:1+r.Intn(15)]
		got, want := rate.New(), words{}
		for i := range 500 {
			name, now := some[r.Intn(len(some))], base
			switch r.Intn(60) {
			case 0:
				now = []int64{math.MinInt64, -1, 0, 1, 100}[r.Intn(5)]
			case 1, 2, 3:
				now -= int64(r.Intn(30))
			case 4:
				now += int64(r.Intn(12))
			}
			base += int64(r.Intn(5*step) / 4 * r.Intn(2))
			if r.Intn(2) == 0 {
				has(t, fmt.Sprint("call ", i), got, name, now, want.at(name, now).n)
				seen[fmt.Sprint(want[name].n)]++
				continue
			}
			is := want.take(name, now)
			if got.Take(name, now) != is {
				t.Errorf("call %d: Take(%q, %d) isn't %v", i, name, now, is)
			}
			seen[fmt.Sprint(is)]++
		}
		if t.Failed() {
			return
		}
	}
	for _, x := range []string{"0", "1", "2", "3", "4", "true", "false"} {
		if seen[x] < 5000 {
			t.Errorf("%s was seen %d times only: %v", x, seen[x], seen)
		}
	}
}

// P18.2: whoever takes what there is, and asks for more, leaves the others all that they have.
func TestNobodyIsCrowdedOut(t *testing.T) {
	greedy, plain := rate.New(), rate.New()
	for now := range int64(300) {
		for range 20 {
			greedy.Take("greedy", now)
			greedy.Take(fmt.Sprint("another ", now), now)
		}
		has(t, "who never asked", greedy, fmt.Sprint("new ", now), now, 4)
		for i, name := range []string{"a", "b", "c"} {
			if now%int64(3+i) == 0 {
				takes(t, "who asks no more often than Refill", greedy, name, now, 1)
				plain.Take(name, now)
			}
			has(t, "among the greedy", greedy, name, now, plain.Left(name, now))
		}
	}
}

// P18.2: whatever the ticks, between any two of them a name has no more than Burst, and one more each Refill.
func TestNobodyHasMore(t *testing.T) {
	r := rand.New(rand.NewSource(183))
	for round := range 100 {
		x := rate.New()
		var when []int64
		for now := range int64(200) {
			for range []int{round % 7, r.Intn(3), r.Intn(40) / 35 * 9}[r.Intn(3)] {
				if x.Take("a", now) {
					when = append(when, now)
				}
			}
		}
		for i, from := range when {
			for j, to := range when[i:] {
				if int64(j+1) > 4+(to-from)/3 {
					t.Fatalf("round %d: %d taken from %d to %d", round, j+1, from, to)
				}
			}
		}
	}
}

// P18.2: who always asks for one more gets just one each Refill, for as long as it asks.
func TestWhoAlwaysAsks(t *testing.T) {
	x, n := rate.New(), 0
	for now := int64(7); now <= 7+3000; now++ {
		for x.Take("a", now) {
			n++
		}
	}
	if n != 4+1000 {
		t.Errorf("%d were taken in 3000 ticks", n)
	}
}

// P18.1: the name that is handed in is not kept: whoever handed it in may write others in its place.
func TestNameIsNotKept(t *testing.T) {
	room := []byte("ann bob")
	name := unsafe.String(&room[0], 3)
	left, take := rate.New(), rate.New()
	has(t, "ann", left, name, 100, 4)
	takes(t, "ann", take, name, 100, 4)
	copy(room, "eve")
	for _, r := range []*rate.Rate{left, take} {
		has(t, "eve", r, name, 1, 4)
		takes(t, "eve", r, name, 1, 1)
		has(t, "eve", r, "eve", 3, 3)
		has(t, "eve", r, "eve", 4, 4)
	}
	copy(room, "eva")
	has(t, "ann", take, "ann", 100, 0)
	has(t, "ann", take, "ann", 103, 1)
	takes(t, "ann", left, "ann", 5, 1)
	has(t, "ann", left, "ann", 102, 3)
	has(t, "ann", left, "ann", 103, 4)
}

// P18.1: of many names each has its own.
func TestManyNames(t *testing.T) {
	r := rate.New()
	const n = 100000
	for i := range n {
		takes(t, "of many", r, fmt.Sprint("n", i), int64(i%1000), i%5)
	}
	for i := range n {
		has(t, "of many", r, fmt.Sprint("n", i), int64(i%1000), 4-i%5)
		has(t, "of many", r, fmt.Sprint("n", i), int64(i%1000)+4, min(4, 5-i%5))
	}
}
