package report

import (
	"math"
	"math/big"
	"math/rand"
	"slices"
	"testing"

	"conflux/api"
)

type note struct {
	seq uint16
	ts  uint32
	now int64
}

// model keeps all packets, and works everything out from them anew.
type model struct {
	notes    []note
	numbers  []int64 // extended
	highest  int64
	reported int // how many packets there were at the last report
}

// nearest is the number closest to a value that is n modulo 2^16; of two, the lower one.
func nearest(n uint16, to int64) int64 {
	best := int64(n)
	for round := to/65536 - 1; round <= to/65536+1; round++ {
		if c := round*65536 + int64(n); distance(c, to) < distance(best, to) {
			best = c
		}
	}
	return best
}

func distance(a, b int64) int64 { return max(a-b, b-a) }

func (m *model) note(x note) {
	number := 1<<32 + int64(x.seq)
	if len(m.numbers) > 0 {
		number = nearest(x.seq, m.highest)
	}
	m.notes = append(m.notes, x)
	m.numbers = append(m.numbers, number)
	m.highest = max(m.highest, number)
}

func expected(numbers []int64) int64 {
	if len(numbers) == 0 {
		return 0
	}
	return slices.Max(numbers) - numbers[0] + 1
}

// floor is a/b as the document rounds it, within limits.
func floor(a, b, low, high int64) int64 {
	q, r := new(big.Int), new(big.Int)
	q.DivMod(big.NewInt(a), big.NewInt(b), r) // Euclid's: r isn't negative, and b is positive
	if q.Cmp(big.NewInt(low)) < 0 {
		return low
	}
	if q.Cmp(big.NewInt(high)) > 0 {
		return high
	}
	return q.Int64()
}

func (m *model) jitter() uint32 {
	limit := func(now int64) int64 { return floor(now, 1, 0, 1<<40) }
	sum := int64(0)
	for i := 1; i < len(m.notes); i++ {
		a, b := m.notes[i-1], m.notes[i]
		step := (int64(b.ts) - int64(a.ts) + 3<<31) % (1 << 32) // 2^31 more than by how much it is ahead
		d := distance(limit(b.now)-limit(a.now), step-1<<31)
		sum = floor(sum+d-(sum+8)/16, 1, 0, 1<<50)
	}
	return uint32(floor(sum, 16, 0, 1<<32-1))
}

func (m *model) report(ssrc uint32) api.Report {
	received := int64(len(m.numbers))
	e := expected(m.numbers) - expected(m.numbers[:m.reported])
	r := received - int64(m.reported)
	loss := int64(0)
	if e > 0 {
		loss = floor((e-r)*256, e, 0, 255)
	}
	return api.Report{
		SSRC: ssrc, Loss: int(loss), Lost: int32(floor(expected(m.numbers)-received, 1, -1<<23, 1<<23-1)),
		Highest: uint32(m.highest % (1 << 32)), Jitter: m.jitter(),
	}
}

// check holds what s tells against the model.
func check(t *testing.T, s *Stats, m *model) {
	t.Helper()
	want := m.report(0)
	got := api.Report{Loss: s.Fraction(), Lost: s.Lost(), Highest: s.Highest(), Jitter: s.Jitter()}
	if got != want || s.Received() != int64(len(m.notes)) || s.Expected() != expected(m.numbers) {
		t.Fatalf("after %+v: %+v, %d of %d, want %+v, %d", m.notes, got, s.Received(), s.Expected(), want, expected(m.numbers))
	}
}

func noted(seqs ...uint16) *Stats {
	var s Stats
	for _, seq := range seqs {
		s.Note(seq, 0, 0)
	}
	return &s
}

func TestExample(t *testing.T) {
	s := noted(65534, 65535, 1)
	if s.Received() != 3 || s.Expected() != 4 || s.Lost() != 1 || s.Fraction() != 64 || s.Highest() != 65537 {
		t.Errorf("%d of %d, lost %d, fraction %d, highest %d", s.Received(), s.Expected(), s.Lost(), s.Fraction(), s.Highest())
	}
}

func TestNoPackets(t *testing.T) {
	var s Stats
	for range 2 {
		if s.Received() != 0 || s.Expected() != 0 || s.Lost() != 0 || s.Highest() != 0 || s.Jitter() != 0 || s.Fraction() != 0 {
			t.Errorf("%+v", s)
		}
		if r := s.Report(7); r != (api.Report{SSRC: 7}) {
			t.Errorf("%+v", r)
		}
	}
	// A report of no packets doesn't hide the first one.
	s.Note(9, 0, 0)
	s.Note(11, 0, 0)
	if s.Expected() != 3 || s.Fraction() != 85 {
		t.Errorf("%d, fraction %d", s.Expected(), s.Fraction())
	}
}

func TestOnePacket(t *testing.T) {
	for _, seq := range []uint16{0, 1, 32767, 32768, 65535} {
		s := noted(seq)
		if s.Received() != 1 || s.Expected() != 1 || s.Lost() != 0 || s.Highest() != uint32(seq) || s.Jitter() != 0 || s.Fraction() != 0 {
			t.Errorf("%d: %+v", seq, s)
		}
	}
	// Neither the time nor the timestamp of the first packet counts.
	var s Stats
	s.Note(0, 1<<31, 1<<39)
	if s.Jitter() != 0 {
		t.Errorf("%d", s.Jitter())
	}
}

func TestOrder(t *testing.T) {
	for _, c := range []struct {
		name     string
		seqs     []uint16
		expected int64
		lost     int32
		fraction int
		highest  uint32
	}{
		{"in order", []uint16{1, 2, 3}, 3, 0, 0, 3},
		{"out of order", []uint16{1, 3, 2}, 3, 0, 0, 3},
		{"one is missing", []uint16{1, 3}, 3, 1, 85, 3},
		{"twice", []uint16{1, 1, 2}, 2, -1, 0, 2},
		{"older than the first", []uint16{5, 4, 3}, 1, -2, 0, 5},
		{"older than the first across 0", []uint16{0, 65535}, 1, -1, 0, 0},
		{"the greatest step", []uint16{0, 32767}, 32768, 32766, 255, 32767},
		{"half the circle is a step back", []uint16{0, 32768}, 1, -1, 0, 0},
		{"all around", []uint16{40000, 0, 20000, 40000}, 65537, 65533, 255, 105536},
		{"a duplicate hides a loss", []uint16{1, 1, 3}, 3, 0, 0, 3},
		{"more duplicates than losses", []uint16{1, 1, 1, 1, 3}, 3, -2, 0, 3},
	} {
		s := noted(c.seqs...)
		if s.Expected() != c.expected || s.Lost() != c.lost || s.Fraction() != c.fraction || s.Highest() != c.highest {
			t.Errorf("%s: expected %d, lost %d, fraction %d, highest %d", c.name, s.Expected(), s.Lost(), s.Fraction(), s.Highest())
		}
	}
}

// P8.2: the first half.
func TestNothingLost(t *testing.T) {
	for first := 0; first < 1<<16; first += 97 {
		var s Stats
		for i := range 300 {
			s.Note(uint16(first+i), uint32(i), int64(i))
			if i%70 == 0 && s.Report(1).Loss != 0 {
				t.Fatalf("first %d: lost after %d packets", first, i+1)
			}
		}
		if s.Lost() != 0 || s.Fraction() != 0 || s.Expected() != 300 || s.Received() != 300 || s.Jitter() != 0 || s.Highest() != uint32(first+299) {
			t.Fatalf("first %d: %+v", first, s)
		}
	}
	// Several times around.
	var s Stats
	for i := range 300000 {
		s.Note(uint16(65000+i), 0, 0)
	}
	if s.Lost() != 0 || s.Fraction() != 0 || s.Expected() != 300000 || s.Highest() != 65000+299999 {
		t.Errorf("%+v", s)
	}
}

// P8.2: the second half.
func TestLostBetween(t *testing.T) {
	random := rand.New(rand.NewSource(1))
	for range 500 {
		var s Stats
		first, lost := random.Intn(1<<16), int32(0)
		s.Note(uint16(first), 0, 0)
		for i := range 200 {
			if random.Intn(3) == 0 {
				lost++
			} else {
				s.Note(uint16(first+1+i), 0, 0)
			}
		}
		s.Note(uint16(first+201), 0, 0)
		if s.Lost() != lost || s.Expected() != 202 || s.Fraction() != int(lost)*256/202 {
			t.Fatalf("first %d: lost %d, want %d", first, s.Lost(), lost)
		}
	}
}

// Lost is limited, Expected and Received are not.
func TestLimitsOfLost(t *testing.T) {
	var s Stats
	for i := range 257 {
		if i == 256 && s.Lost() != 255*32766 {
			t.Errorf("%d is lost below the limit", s.Lost())
		}
		s.Note(uint16(32767*i), 0, 0)
	}
	if s.Expected() != 256*32767+1 || s.Lost() != 256*32767+1-257 {
		t.Errorf("%d of %d", s.Lost(), s.Expected())
	}
	next := 32767 * 257
	s.Note(uint16(next), 0, 0)
	if s.Expected() != 257*32767+1 || s.Lost() != 1<<23-1 || s.Report(1).Lost != 1<<23-1 {
		t.Errorf("%d of %d", s.Lost(), s.Expected())
	}
	s = Stats{}
	for i := range 1<<23 + 1 {
		s.Note(5, 0, 0)
		if i == 1<<23-1 && s.Lost() != 1-1<<23 {
			t.Errorf("%d is lost above the limit", s.Lost())
		}
	}
	if s.Lost() != -1<<23 {
		t.Errorf("%d at the limit", s.Lost())
	}
	s.Note(5, 0, 0)
	if s.Lost() != -1<<23 || s.Received() != 1<<23+2 || s.Expected() != 1 {
		t.Errorf("%d beyond the limit", s.Lost())
	}
}

// The low 32 bits of the highest number go round, and Expected does not.
func TestHighestGoesRound(t *testing.T) {
	var s Stats
	s.Note(0, 0, 0)
	number := int64(0)
	for number < 1<<32+100000 {
		number += 30000
		s.Note(uint16(number), 0, 0)
	}
	if s.Highest() != uint32(number) || s.Highest() > 1<<20 || s.Expected() != number+1 {
		t.Errorf("highest %d, expected %d after %d", s.Highest(), s.Expected(), number)
	}
}

func TestFraction(t *testing.T) {
	s := noted(0, 2) // 1 of 3
	if s.Fraction() != 85 || s.Fraction() != 85 {
		t.Errorf("asking doesn't begin anew: %d", s.Fraction())
	}
	if r := s.Report(1); r.Loss != 85 || r.Lost != 1 || s.Fraction() != 0 || s.Lost() != 1 {
		t.Errorf("%+v, then %d", r, s.Fraction())
	}
	s.Note(3, 0, 0)
	s.Note(6, 0, 0) // 2 of 4
	if s.Fraction() != 128 || s.Lost() != 3 {
		t.Errorf("%d, lost %d", s.Fraction(), s.Lost())
	}
	s.Report(1)
	// A late packet isn't expected any more: e is 0.
	s.Note(5, 0, 0)
	if s.Fraction() != 0 || s.Lost() != 2 {
		t.Errorf("%d, lost %d", s.Fraction(), s.Lost())
	}
	s.Report(1)
	// e is less than r.
	s.Note(7, 0, 0)
	s.Note(4, 0, 0)
	if s.Fraction() != 0 || s.Lost() != 1 {
		t.Errorf("%d, lost %d", s.Fraction(), s.Lost())
	}
	s.Report(1)
	// 255.99 is 255.
	s.Note(7+32767, 0, 0)
	if s.Fraction() != 255 || s.Report(1).Loss != 255 {
		t.Errorf("%d", s.Fraction())
	}
}

func TestJitter(t *testing.T) {
	for _, c := range []struct {
		name  string
		notes []note
		want  uint32
	}{
		{"even", []note{{0, 0, 0}, {1, 160, 160}, {2, 320, 320}}, 0},
		{"less than 16 in all", []note{{0, 0, 0}, {1, 0, 15}}, 0},
		{"16 in all", []note{{0, 0, 0}, {1, 0, 16}}, 1},
		{"once", []note{{0, 0, 0}, {1, 0, 160}}, 10},
		{"once, then even", []note{{0, 0, 0}, {1, 0, 160}, {2, 0, 160}}, 9},
		{"too early", []note{{0, 0, 0}, {1, 160, 0}}, 10},
		{"time goes back", []note{{0, 0, 160}, {1, 0, 0}}, 10},
		{"timestamp goes back", []note{{0, 160, 0}, {1, 0, 0}}, 10},
		{"both go back", []note{{0, 160, 160}, {1, 0, 0}}, 0},
		{"timestamp goes round", []note{{0, math.MaxUint32, 0}, {1, 159, 160}}, 0},
		{"timestamp goes round backwards", []note{{0, 0, 160}, {1, math.MaxUint32, 159}}, 0},
		{"half the circle is a step back", []note{{0, 0, 1 << 31}, {1, 1 << 31, 0}}, 0},
		{"less than half the circle is a step ahead", []note{{0, 0, 0}, {1, 1<<31 - 1, 1<<31 - 1}}, 0},
		{"of the same number", []note{{7, 0, 0}, {7, 0, 160}}, 10},
		{"of an older number", []note{{7, 0, 0}, {3, 0, 160}}, 10},
		{"since the packet that was recorded, not since the highest", []note{{7, 0, 0}, {3, 1000, 1000}, {8, 1000, 1000}}, 0},
		{"a time less than 0", []note{{0, 0, -5000}, {1, 0, 160}}, 10},
		{"two times less than 0", []note{{0, 0, math.MinInt64}, {1, 0, -1}}, 0},
		{"a time greater than the greatest", []note{{0, 0, 1<<40 - 160}, {1, 0, math.MaxInt64}}, 10},
		{"two times greater than the greatest", []note{{0, 0, math.MaxInt64}, {1, 0, 1<<40 + 1}}, 0},
		{"the greatest", []note{{0, 0, 0}, {1, 0, 1<<36 - 1}}, math.MaxUint32},
		{"the greatest but one", []note{{0, 0, 0}, {1, 0, 1<<36 - 17}}, math.MaxUint32 - 1},
		{"beyond the greatest", []note{{0, 0, 0}, {1, 0, 1 << 36}}, math.MaxUint32},
		{"far beyond the greatest", []note{{0, 0, math.MinInt64}, {1, 1 << 31, math.MaxInt64}, {2, 0, math.MinInt64}}, math.MaxUint32},
	} {
		var s Stats
		for _, x := range c.notes {
			s.Note(x.seq, x.ts, x.now)
		}
		if s.Jitter() != c.want || s.Report(1).Jitter != c.want || s.Jitter() != c.want {
			t.Errorf("%s: %d, want %d", c.name, s.Jitter(), c.want)
		}
	}
}

// Half of 16 and more is rounded up when the sum falls, and 7 stays.
func TestJitterFalls(t *testing.T) {
	for start, want := range map[int64]int64{1600: 1500, 24: 22, 23: 22, 9: 8, 8: 7, 7: 7} {
		if got := nextSum(start, 0); got != want {
			t.Errorf("from %d to %d, want %d", start, got, want)
		}
	}
	var s Stats
	s.Note(0, 0, 0)
	s.Note(0, 0, 1<<36)
	for range 1000 {
		s.Note(0, 0, 1<<36)
	}
	if s.Jitter() != 0 || s.sum != 7 {
		t.Errorf("%d, sum %d", s.Jitter(), s.sum)
	}
}

// No packets reach the limit of the sum: the sum stays below 17 times the greatest difference.
func TestLimitOfSum(t *testing.T) {
	if got := nextSum(1<<50, 1<<40); got != 1<<50-1<<46+1<<40 {
		t.Errorf("%d", got)
	}
	if got := nextSum(1<<50, -1<<47); got != 1<<50 {
		t.Errorf("%d", got)
	}
	var s Stats
	for i := range 2000 {
		s.Note(0, uint32(i%2)<<31, int64(i%2)<<40)
	}
	if s.sum > 17*(1<<40+1<<31) || s.Jitter() != math.MaxUint32 {
		t.Errorf("sum %d", s.sum)
	}
}

func TestReport(t *testing.T) {
	var s Stats
	s.Note(65534, 0, 0)
	s.Note(1, 0, 320)
	want := api.Report{SSRC: math.MaxUint32, Loss: 128, Lost: 2, Highest: 65537, Jitter: 20}
	if r := s.Report(math.MaxUint32); r != want {
		t.Errorf("%+v", r)
	}
	want.SSRC, want.Loss = 0, 0
	if r := s.Report(0); r != want {
		t.Errorf("another one: %+v", r)
	}
}

// randomSteps are packets of a kind: near each other or not.
func randomSteps(random *rand.Rand) func() note {
	var x note
	x.seq, x.ts, x.now = uint16(random.Uint32()), random.Uint32(), random.Int63n(1<<40)
	spread := []int{3, 100, 40000, 1 << 16}[random.Intn(4)]
	wild := random.Intn(3) == 0
	return func() note {
		x.seq += uint16(random.Intn(spread) - spread/3)
		x.ts += uint32(random.Intn(spread))
		x.now += int64(random.Intn(spread) - spread/4)
		if wild {
			x.ts, x.now = random.Uint32(), int64(random.Uint64())
		}
		return x
	}
}

// P8.1, P2: any order of calls.
func TestAnyOrderOfCalls(t *testing.T) {
	random := rand.New(rand.NewSource(2))
	for range 1500 {
		var s Stats
		var m model
		step := randomSteps(random)
		check(t, &s, &m)
		for range 40 {
			if random.Intn(5) == 0 {
				ssrc := random.Uint32()
				if got, want := s.Report(ssrc), m.report(ssrc); got != want {
					t.Fatalf("after %+v: %+v, want %+v", m.notes, got, want)
				}
				m.reported = len(m.notes)
			} else {
				x := step()
				s.Note(x.seq, x.ts, x.now)
				m.note(x)
			}
			check(t, &s, &m)
		}
	}
}

// P8.3: neither one notices what happens to the other.
func TestClone(t *testing.T) {
	random := rand.New(rand.NewSource(3))
	for range 300 {
		var s Stats
		var m model
		step := randomSteps(random)
		for range random.Intn(10) {
			x := step()
			s.Note(x.seq, x.ts, x.now)
			m.note(x)
		}
		if random.Intn(2) == 0 {
			s.Report(1)
			m.reported = len(m.notes)
		}
		stats := []*Stats{&s, s.Clone()}
		stats = append(stats, stats[1].Clone())
		models := []*model{&m, m.clone(), m.clone()}
		for range 40 {
			i := random.Intn(len(stats))
			if random.Intn(4) == 0 {
				if got, want := stats[i].Report(2), models[i].report(2); got != want {
					t.Fatalf("%+v, want %+v", got, want)
				}
				models[i].reported = len(models[i].notes)
			} else {
				x := step()
				stats[i].Note(x.seq, x.ts, x.now)
				models[i].note(x)
			}
			for j := range stats {
				check(t, stats[j], models[j])
			}
		}
	}
}

func (m *model) clone() *model {
	other := *m
	other.notes, other.numbers = slices.Clone(m.notes), slices.Clone(m.numbers)
	return &other
}
