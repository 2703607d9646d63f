package equate

import (
	"iter"
	"maps"
	"math"
	"math/rand"
	"slices"
	"testing"
)

// step is an element that Peel returns, and the index of its equation.
type step[T comparable] struct {
	x T
	i int
}

func steps[T comparable](seq iter.Seq2[T, int]) []step[T] {
	var list []step[T]
	for x, i := range seq {
		list = append(list, step[T]{x, i})
	}
	return list
}

// unknownIn is the elements of an equation that aren't known, each once, in order.
func unknownIn(eq []int, known map[int]struct{}) []int {
	var list []int
	for _, x := range eq {
		if _, ok := known[x]; !ok && !slices.Contains(list, x) {
			list = append(list, x)
		}
	}
	return list
}

func setOf(xs []int) map[int]struct{} {
	set := map[int]struct{}{}
	for _, x := range xs {
		set[x] = struct{}{}
	}
	return set
}

// rounds is Peel, by its definition.
func rounds(known []int, eqs [][]int) []step[int] {
	set := setOf(known)
	var list []step[int]
	for {
		before := len(list)
		for i, eq := range eqs {
			if rest := unknownIn(eq, set); len(rest) == 1 {
				set[rest[0]] = struct{}{}
				list = append(list, step[int]{rest[0], i})
			}
		}
		if len(list) == before {
			return list
		}
	}
}

// closed is Closure, with the rule applied to one equation at a time, in any order.
func closed(random *rand.Rand, known []int, eqs [][]int) map[int]struct{} {
	set := setOf(known)
	for again := true; again; {
		again = false
		for _, i := range random.Perm(len(eqs)) {
			if rest := unknownIn(eqs[i], set); len(rest) == 1 {
				set[rest[0]] = struct{}{}
				again = true
				break
			}
		}
	}
	return set
}

func cloneAll(eqs [][]int) [][]int {
	var list [][]int
	for _, eq := range eqs {
		list = append(list, slices.Clone(eq))
	}
	return list
}

// randomSystem has few elements, so that many of them are recovered, and many aren't.
func randomSystem(random *rand.Rand) (known []int, eqs [][]int) {
	elements := 1 + random.Intn(12)
	for range random.Intn(elements + 1) {
		known = append(known, random.Intn(elements))
	}
	for range random.Intn(10) {
		var eq []int
		for range random.Intn(6) {
			eq = append(eq, random.Intn(elements))
		}
		eqs = append(eqs, eq)
	}
	return known, eqs
}

func sameSet(got map[int]bool, want map[int]struct{}) bool {
	for x := range want {
		if !got[x] {
			return false
		}
	}
	return len(got) == len(want)
}

func TestExample(t *testing.T) {
	known, eqs := []int{1}, [][]int{{1, 2}, {2, 3}, {3, 4, 5}}
	if got := Closure(known, eqs); !maps.Equal(got, map[int]bool{1: true, 2: true, 3: true}) {
		t.Errorf("Closure: %v", got)
	}
	if got := steps(Peel(known, eqs)); !slices.Equal(got, []step[int]{{2, 0}, {3, 1}}) {
		t.Errorf("Peel: %v", got)
	}
	if got := Stuck(known, eqs); len(got) != 1 || !slices.Equal(got[0], []int{4, 5}) {
		t.Errorf("Stuck: %v", got)
	}
	if !Peelable([]int{2, 3}, known, eqs) || Peelable([]int{2, 4}, known, eqs) {
		t.Error("Peelable")
	}
}

// P15.1, P15.3: every function, held against its definition.
func TestModel(t *testing.T) {
	random := rand.New(rand.NewSource(1))
	peelable, recovered := 0, 0
	for range 20000 {
		known, eqs := randomSystem(random)
		knownBefore, eqsBefore := slices.Clone(known), cloneAll(eqs)
		want := closed(random, known, eqs)
		if got := Closure(known, eqs); !sameSet(got, want) {
			t.Fatalf("Closure(%v, %v): %v, want %v", known, eqs, got, want)
		}
		order := steps(Peel(known, eqs))
		if !slices.Equal(order, rounds(known, eqs)) {
			t.Fatalf("Peel(%v, %v): %v, want %v", known, eqs, order, rounds(known, eqs))
		}
		// With those that are known at first, each of them once, these are all.
		got := setOf(known)
		for _, s := range order {
			if _, again := got[s.x]; again {
				t.Fatalf("Peel(%v, %v): %d is known already", known, eqs, s.x)
			}
			got[s.x] = struct{}{}
		}
		if !maps.Equal(got, want) {
			t.Fatalf("Peel(%v, %v): %v, want %v", known, eqs, got, want)
		}
		recovered += len(order)
		checkStuck(t, known, eqs, want)
		if checkPeelable(t, random, known, eqs) {
			peelable++
		}
		if !slices.Equal(known, knownBefore) || !slices.EqualFunc(eqs, eqsBefore, slices.Equal) {
			t.Fatalf("%v, %v became %v, %v", knownBefore, eqsBefore, known, eqs)
		}
	}
	if recovered < 10000 || peelable < 2000 || peelable > 18000 {
		t.Errorf("%d recovered, %d peelable", recovered, peelable)
	}
}

func checkStuck(t *testing.T, known []int, eqs [][]int, recoverable map[int]struct{}) {
	t.Helper()
	var want [][]int
	for _, eq := range eqs {
		if rest := unknownIn(eq, recoverable); len(rest) > 0 {
			want = append(want, rest)
		}
	}
	if got := Stuck(known, eqs); !slices.EqualFunc(got, want, slices.Equal) {
		t.Fatalf("Stuck(%v, %v): %v, want %v", known, eqs, got, want)
	}
}

func checkPeelable(t *testing.T, random *rand.Rand, known []int, eqs [][]int) bool {
	t.Helper()
	var lost []int
	for range random.Intn(4) {
		lost = append(lost, random.Intn(13))
	}
	before := slices.Clone(lost)
	rest := slices.DeleteFunc(slices.Clone(known), func(x int) bool { return slices.Contains(lost, x) })
	recoverable := closed(random, rest, eqs)
	want := true
	for _, x := range lost {
		_, ok := recoverable[x]
		want = want && ok
	}
	if got := Peelable(lost, known, eqs); got != want {
		t.Fatalf("Peelable(%v, %v, %v): %v", lost, known, eqs, got)
	}
	if !slices.Equal(lost, before) {
		t.Fatalf("%v became %v", before, lost)
	}
	return want
}

// P15.2: with more, no less is recovered.
func TestMoreRecoversMore(t *testing.T) {
	random := rand.New(rand.NewSource(2))
	for range 5000 {
		known, eqs := randomSystem(random)
		moreKnown, moreEqs := randomSystem(random)
		some := Closure(known, eqs)
		lost := []int{random.Intn(12), random.Intn(12)}
		for _, more := range []map[int]bool{
			Closure(append(slices.Clone(known), moreKnown...), eqs),
			Closure(known, append(cloneAll(moreEqs), eqs...)),
			Closure(append(slices.Clone(moreKnown), known...), append(cloneAll(eqs), moreEqs...)),
		} {
			for x := range some {
				if !more[x] {
					t.Fatalf("%v, %v with %v, %v: %v, less than %v", known, eqs, moreKnown, moreEqs, more, some)
				}
			}
		}
		if Peelable(lost, known, eqs) && !Peelable(lost, append(moreKnown, known...), append(cloneAll(moreEqs), eqs...)) {
			t.Fatalf("%v, %v with %v, %v: less is peelable", known, eqs, moreKnown, moreEqs)
		}
	}
}

// P15.2: the order of all of it doesn't matter for what is recovered.
func TestOrderDoesNotMatter(t *testing.T) {
	random := rand.New(rand.NewSource(3))
	shuffle := func(xs []int) {
		random.Shuffle(len(xs), func(i, j int) { xs[i], xs[j] = xs[j], xs[i] })
	}
	for range 5000 {
		known, eqs := randomSystem(random)
		want := Closure(known, eqs)
		lost := []int{random.Intn(12), random.Intn(12)}
		peelable := Peelable(lost, known, eqs)
		shuffle(known)
		random.Shuffle(len(eqs), func(i, j int) { eqs[i], eqs[j] = eqs[j], eqs[i] })
		for _, eq := range eqs {
			shuffle(eq)
		}
		shuffle(lost)
		if got := Closure(known, eqs); !maps.Equal(got, want) {
			t.Fatalf("Closure(%v, %v): %v, want %v", known, eqs, got, want)
		}
		if Peelable(lost, known, eqs) != peelable {
			t.Fatalf("Peelable(%v, %v, %v)", lost, known, eqs)
		}
	}
}

// P15.1: an equation behind another one is visited in the same round, one ahead of it in the next.
func TestRounds(t *testing.T) {
	for _, c := range []struct {
		known string
		eqs   []string
		want  string
	}{
		{"", nil, ""},
		{"", []string{"", "", ""}, ""},
		{"", []string{"a"}, "a0"},
		{"a", []string{"a", "aa"}, ""},
		{"", []string{"aa", "a"}, "a0"},
		{"", []string{"a", "ab", "bc"}, "a0b1c2"},
		{"", []string{"bc", "ab", "a"}, "a2b1c0"},
		{"", []string{"de", "a", "cd", "ab", "bc"}, "a1b3c4d2e0"},
		{"a", []string{"ab", "cb", "ac"}, "b0c1"},
		{"", []string{"ab", "ba", "abc"}, ""},
		{"x", []string{"xaxax", "b", "bca"}, "a0b1c2"},
		{"z", []string{"ay", "bx", "x", "y"}, "x2y3a0b1"},
	} {
		var eqs [][]byte
		for _, eq := range c.eqs {
			eqs = append(eqs, []byte(eq))
		}
		got := ""
		for x, i := range Peel([]byte(c.known), eqs) {
			got += string(x) + string(rune('0'+i))
		}
		if got != c.want {
			t.Errorf("Peel(%q, %q): %q, want %q", c.known, c.eqs, got, c.want)
		}
	}
}

func TestPeelableCases(t *testing.T) {
	eqs := [][]int{{1, 2, 3}, {3, 4}, {}}
	for _, c := range []struct {
		lost, known []int
		want        bool
	}{
		{nil, nil, true},
		{nil, []int{1}, true},
		{[]int{}, []int{}, true},
		{[]int{1}, []int{2, 3}, true},
		{[]int{1}, []int{1, 2, 3}, true},
		{[]int{1, 2}, []int{1, 2, 3}, false},
		{[]int{1, 4}, []int{2, 3}, true},
		{[]int{4, 4, 1, 1}, []int{2, 3, 4, 4}, true},
		{[]int{3}, []int{4}, true},
		{[]int{1, 3}, []int{2, 4}, true},
		{[]int{3, 4}, []int{1, 2, 3, 4}, true},
		{[]int{1, 3, 4}, []int{1, 2, 3, 4}, false},
		{[]int{1}, []int{1}, false},
		{[]int{9}, []int{9}, false},
		{[]int{9}, nil, false},
		{[]int{3, 9}, []int{4}, false},
	} {
		if got := Peelable(c.lost, c.known, eqs); got != c.want {
			t.Errorf("Peelable(%v, %v): %v", c.lost, c.known, got)
		}
	}
	if Peelable([]int{1}, []int{1}, nil) || !Peelable[int](nil, nil, nil) {
		t.Error("without equations")
	}
}

func TestStuckCases(t *testing.T) {
	for _, c := range []struct {
		known []int
		eqs   [][]int
		want  [][]int
	}{
		{nil, nil, nil},
		{nil, [][]int{{}, nil}, nil},
		{[]int{1, 2}, [][]int{{1, 2}, {2}}, nil},
		{nil, [][]int{{5, 4, 5, 3, 4}}, [][]int{{5, 4, 3}}},
		{[]int{4}, [][]int{{1, 2}, {4, 6}, {6, 2, 1}, {2, 3, 1}}, [][]int{{1, 2}, {2, 1}, {2, 3, 1}}},
	} {
		if got := Stuck(c.known, c.eqs); !slices.EqualFunc(got, c.want, slices.Equal) {
			t.Errorf("Stuck(%v, %v): %v, want %v", c.known, c.eqs, got, c.want)
		}
	}
}

func TestClosureOfNothing(t *testing.T) {
	all := Closure[string](nil, nil)
	if all == nil || len(all) != 0 {
		t.Errorf("%v", all)
	}
	// It is the caller's from then on.
	all["x"] = true
	if again := Closure[string](nil, nil); len(again) != 0 {
		t.Errorf("%v", again)
	}
	if all := Closure([]string{"a", "a"}, nil); !maps.Equal(all, map[string]bool{"a": true}) {
		t.Errorf("%v", all)
	}
}

func TestPeelStopsAndRepeats(t *testing.T) {
	seq := Peel([]int{0}, [][]int{{2, 3}, {0, 1}, {1, 2}, {3, 4}})
	want := []step[int]{{1, 1}, {2, 2}, {3, 0}, {4, 3}}
	for n := range want {
		var got []step[int]
		for x, i := range seq {
			got = append(got, step[int]{x, i})
			if len(got) == n+1 {
				break
			}
		}
		if !slices.Equal(got, want[:n+1]) {
			t.Errorf("the first %d: %v", n+1, got)
		}
	}
	if got := steps(seq); !slices.Equal(got, want) {
		t.Errorf("again: %v", got)
	}
	for range seq {
		if got := steps(seq); !slices.Equal(got, want) {
			t.Errorf("within itself: %v", got)
		}
	}
}

// A caller's panic isn't caught, and does no harm.
func TestPanicOfCaller(t *testing.T) {
	seq := Peel(nil, [][]int{{1}, {1, 2}})
	func() {
		defer func() {
			if x := recover(); x != "mine" {
				t.Errorf("%v", x)
			}
		}()
		for range seq {
			panic("mine")
		}
	}()
	if got := steps(seq); !slices.Equal(got, []step[int]{{1, 0}, {2, 1}}) {
		t.Errorf("%v", got)
	}
}

// The caller may overwrite what it passed, between the call and the use of the iterator.
func TestArgumentsAreNotKept(t *testing.T) {
	known, eqs := []int{1}, [][]int{{1, 2}, {2, 3}}
	seq := Peel(known, eqs)
	known[0], eqs[0][1], eqs[1] = 7, 8, []int{9}
	want := []step[int]{{2, 0}, {3, 1}}
	if got := steps(seq); !slices.Equal(got, want) {
		t.Errorf("%v", got)
	}
	for range seq {
		eqs[0][0], eqs[1][0] = 5, 6
	}
	if got := steps(seq); !slices.Equal(got, want) {
		t.Errorf("%v", got)
	}
}

func TestStuckIsNewMemory(t *testing.T) {
	whole := []int{1, 2, 3, 4}
	eqs := [][]int{whole[:2], whole[:2], whole[1:3]}
	got := Stuck(nil, eqs)
	for _, list := range got {
		list = list[:cap(list)]
		for i := range list {
			list[i] = -1
		}
	}
	if !slices.Equal(whole, []int{1, 2, 3, 4}) {
		t.Errorf("an argument became %v", whole)
	}
	got = Stuck(nil, eqs)
	got[0][0], got[2][1] = 7, 8
	got[0] = append(got[0], 9)
	if !slices.Equal(got[1], []int{1, 2}) || !slices.Equal(got[2], []int{2, 8}) {
		t.Errorf("two lists share memory: %v", got)
	}
}

type point struct {
	x int
	y string
}

func TestElementsOfOtherTypes(t *testing.T) {
	a, b, c := point{1, "a"}, point{1, "b"}, point{2, "a"}
	if got := steps(Peel([]point{a}, [][]point{{b, c}, {a, {1, "b"}}})); !slices.Equal(got, []step[point]{{b, 1}, {c, 0}}) {
		t.Errorf("structs: %v", got)
	}
	one, other := new(int), new(int)
	if got := steps(Peel([]*int{one}, [][]*int{{one, other}, {nil, other}})); !slices.Equal(got, []step[*int]{{other, 0}, {nil, 1}}) {
		t.Errorf("pointers: %v", got)
	}
	mixed := Closure([]any{1, nil}, [][]any{{1, nil, int8(1)}, {int8(1), "1"}, {1.0, true}})
	if !maps.Equal(mixed, map[any]bool{1: true, nil: true, int8(1): true, "1": true}) {
		t.Errorf("interfaces: %v", mixed)
	}
	if got := Stuck([]struct{}{}, [][]struct{}{{{}, {}}, {}}); len(got) != 0 {
		t.Errorf("the empty struct: %v", got)
	}
	zero := math.Copysign(0, -1)
	if got := steps(Peel([]float64{0}, [][]float64{{zero, 1}})); !slices.Equal(got, []step[float64]{{1, 0}}) {
		t.Errorf("zeros: %v", got)
	}
}

// P1: an element that isn't equal to itself is another one wherever it occurs.
func TestNaN(t *testing.T) {
	nan := math.NaN()
	eqs := [][]float64{{nan}, {nan, nan}, {nan, 1}, {2}}
	var got []float64
	var by []int
	for x, i := range Peel([]float64{nan}, eqs) {
		got, by = append(got, x), append(by, i)
	}
	if len(got) != 2 || !math.IsNaN(got[0]) || got[1] != 2 || !slices.Equal(by, []int{0, 3}) {
		t.Errorf("Peel: %v by %v", got, by)
	}
	if all := Closure([]float64{nan}, eqs); len(all) != 3 || !all[2] || all[1] {
		t.Errorf("Closure: %v", all)
	}
	stuck := Stuck([]float64{nan}, eqs)
	if len(stuck) != 2 || len(stuck[0]) != 2 || len(stuck[1]) != 2 || stuck[1][1] != 1 {
		t.Errorf("Stuck: %v", stuck)
	}
	if Peelable([]float64{nan}, []float64{nan}, eqs) || !Peelable([]float64{2}, []float64{nan}, eqs) {
		t.Error("Peelable")
	}
}

// P1: so is one that can't be compared at all, which an interface may hold.
func TestUncomparable(t *testing.T) {
	for _, odd := range []any{[]int{1}, map[int]int{}, func() {}, [1]any{[]int{}}, [2]any{math.NaN(), []int{}}, struct{ x any }{[]int{}}} {
		known, eqs := []any{1, odd}, [][]any{{1, 2}, {odd}, {3, odd}, {2, 4}}
		var by []int
		for _, i := range Peel(known, eqs) {
			by = append(by, i)
		}
		if !slices.Equal(by, []int{0, 1, 3}) {
			t.Errorf("Peel with %T: %v", odd, by)
		}
		if all := Closure(known, eqs); !maps.Equal(all, map[any]bool{1: true, 2: true, 4: true}) {
			t.Errorf("Closure with %T: %v", odd, all)
		}
		if stuck := Stuck(known, eqs); len(stuck) != 1 || len(stuck[0]) != 2 || stuck[0][0] != 3 {
			t.Errorf("Stuck with %T: %v", odd, stuck)
		}
		if Peelable([]any{odd}, known, eqs) || !Peelable([]any{2, 4}, known, eqs) {
			t.Errorf("Peelable with %T", odd)
		}
	}
}

// P1: the worst order, in which each round recovers one element.
func TestLongChain(t *testing.T) {
	const n = 3000
	var eqs [][]int
	for i := range n {
		eqs = append(eqs, []int{n - i - 1, n - i})
	}
	last := 0
	for x, i := range Peel([]int{0}, eqs) {
		if x != last+1 || i != n-x {
			t.Fatalf("%d by %d behind %d", x, i, last)
		}
		last = x
	}
	if last != n || len(Closure([]int{0}, eqs)) != n+1 || len(Stuck(nil, eqs)) != n || !Peelable([]int{n}, []int{0}, eqs) {
		t.Errorf("up to %d", last)
	}
}
