package meter_test

import (
	"math"
	"testing"

	"ziggurat/meter"
)

// counter is what every meter can do, whether its own or promoted.
type counter interface {
	Spend(n int) int
	Muls() int
	Enter() int
	Leave() int
	Deep() int
	Now() int
	Reset()
}

// check holds all that a meter tells against what is asked; told is said beside a fault.
func check(t *testing.T, told string, m counter, muls, now, deep int) {
	t.Helper()
	if m.Muls() != muls || m.Now() != now || m.Deep() != deep {
		t.Errorf("%s: Muls %d, Now %d, Deep %d; asked are %d, %d, %d", told, m.Muls(), m.Now(), m.Deep(), muls, now, deep)
	}
}

// is holds one answer against what is asked.
func is(t *testing.T, told string, answer, asked int) {
	t.Helper()
	if answer != asked {
		t.Errorf("%s: %d; asked is %d", told, answer, asked)
	}
}

func TestZeroValue(t *testing.T) {
	var m meter.Meter
	check(t, "zero value", &m, 0, 0, 0)
	check(t, "new", new(meter.Meter), 0, 0, 0)
	check(t, "literal", &meter.Meter{}, 0, 0, 0)
	if m != (meter.Meter{}) {
		t.Error("asking has changed it")
	}
}

func TestSpend(t *testing.T) {
	var m meter.Meter
	sum := 0
	for _, n := range []int{1, 5, 2, 1 << 20, 1, 3, 1 << 40, 64 * 64} {
		sum += n
		is(t, "Spend", m.Spend(n), sum)
		check(t, "behind Spend", &m, sum, 0, 0)
	}
}

func TestSpendBelowOne(t *testing.T) {
	none := []int{0, -1, -2, -64, -1 << 31, -1 << 40, math.MinInt + 1, math.MinInt}
	var m meter.Meter
	for _, n := range none {
		is(t, "Spend of a new one", m.Spend(n), 0)
		check(t, "behind it", &m, 0, 0, 0)
	}
	m.Spend(7)
	for _, n := range none {
		is(t, "Spend behind 7", m.Spend(n), 7)
		check(t, "behind it", &m, 7, 0, 0)
	}
	is(t, "one more", m.Spend(1), 8)
}

func TestSpendTheMost(t *testing.T) {
	var m meter.Meter
	is(t, "Spend", m.Spend(math.MaxInt), math.MaxInt)
	is(t, "none more", m.Spend(math.MinInt), math.MaxInt)
	check(t, "the most", &m, math.MaxInt, 0, 0)
}

func TestLevels(t *testing.T) {
	var m meter.Meter
	is(t, "Enter", m.Enter(), 1)
	check(t, "behind Enter", &m, 0, 1, 1)
	is(t, "Enter", m.Enter(), 2)
	check(t, "behind Enter", &m, 0, 2, 2)
	is(t, "Leave", m.Leave(), 1)
	check(t, "the document's example", &m, 0, 1, 2)
}

func TestLeaveAtNought(t *testing.T) {
	var m meter.Meter
	for range 3 {
		is(t, "Leave of a new one", m.Leave(), 0)
		check(t, "behind it", &m, 0, 0, 0)
	}
	is(t, "Enter behind it", m.Enter(), 1)
	check(t, "behind it", &m, 0, 1, 1)
	is(t, "Leave", m.Leave(), 0)
	is(t, "Leave at 0", m.Leave(), 0)
	check(t, "behind it", &m, 0, 0, 1)
	is(t, "Enter behind it", m.Enter(), 1)
	check(t, "behind it", &m, 0, 1, 1)
}

func TestGreatestLevel(t *testing.T) {
	steps := []struct {
		enter     bool
		now, deep int
	}{
		{true, 1, 1}, {true, 2, 2}, {true, 3, 3},
		{false, 2, 3}, {false, 1, 3},
		{true, 2, 3}, {true, 3, 3}, {true, 4, 4},
		{false, 3, 4}, {false, 2, 4}, {false, 1, 4}, {false, 0, 4}, {false, 0, 4},
		{true, 1, 4}, {true, 2, 4}, {true, 3, 4}, {true, 4, 4}, {true, 5, 5},
		{false, 4, 5},
	}
	var m meter.Meter
	for _, s := range steps {
		if s.enter {
			is(t, "Enter", m.Enter(), s.now)
		} else {
			is(t, "Leave", m.Leave(), s.now)
		}
		check(t, "behind it", &m, 0, s.now, s.deep)
	}
}

func TestManyLevels(t *testing.T) {
	const levels = 1 << 16
	var m meter.Meter
	for i := range levels {
		is(t, "Enter", m.Enter(), i+1)
	}
	check(t, "at the bottom", &m, 0, levels, levels)
	for i := range levels {
		is(t, "Leave", m.Leave(), levels-i-1)
	}
	check(t, "on top again", &m, 0, 0, levels)
}

func TestCountsAreApart(t *testing.T) {
	var m meter.Meter
	m.Enter()
	m.Spend(10)
	m.Enter()
	m.Spend(-10)
	m.Spend(1)
	m.Leave()
	check(t, "both", &m, 11, 1, 2)
	m.Spend(0)
	m.Leave()
	m.Leave()
	check(t, "both, on top again", &m, 11, 0, 2)
}

func TestReset(t *testing.T) {
	var m meter.Meter
	m.Reset()
	check(t, "Reset of a new one", &m, 0, 0, 0)
	m.Spend(9)
	m.Enter()
	m.Enter()
	m.Enter()
	m.Leave()
	check(t, "ahead of Reset", &m, 9, 2, 3)
	m.Reset()
	check(t, "Reset in the midst", &m, 0, 0, 0)
	is(t, "Leave behind Reset", m.Leave(), 0)
	is(t, "Spend behind Reset", m.Spend(4), 4)
	is(t, "Enter behind Reset", m.Enter(), 1)
	check(t, "behind Reset", &m, 4, 1, 1)
	m.Reset()
	m.Reset()
	check(t, "Reset twice", &m, 0, 0, 0)
	is(t, "Spend none behind Reset", m.Spend(-1), 0)
}

func TestTwoMeters(t *testing.T) {
	var a, b meter.Meter
	a.Spend(3)
	a.Enter()
	check(t, "the other one", &b, 0, 0, 0)
	b.Spend(5)
	b.Reset()
	check(t, "the first one", &a, 3, 1, 1)
}

// inner embeds a meter, outer embeds inner and counts its own Spend twice; shared embeds another's meter.
type (
	inner  struct{ meter.Meter }
	outer  struct{ inner }
	shared struct{ *meter.Meter }
)

func (o *outer) Spend(n int) int {
	return o.inner.Spend(2 * n)
}

func TestEmbedded(t *testing.T) {
	var e inner
	check(t, "embedded", &e, 0, 0, 0)
	is(t, "Spend", e.Spend(6), 6)
	is(t, "Spend none", e.Spend(-6), 6)
	is(t, "Enter", e.Enter(), 1)
	is(t, "Enter", e.Enter(), 2)
	is(t, "Leave", e.Leave(), 1)
	check(t, "embedded, used", &e, 6, 1, 2)
	check(t, "the meter within", &e.Meter, 6, 1, 2)
	e.Reset()
	check(t, "embedded, reset", &e, 0, 0, 0)
}

func TestEmbeddedTwice(t *testing.T) {
	var o outer
	is(t, "the outer Spend", o.Spend(3), 6)
	is(t, "the inner Spend", o.inner.Spend(3), 9)
	is(t, "Enter", o.Enter(), 1)
	is(t, "Leave", o.Leave(), 0)
	is(t, "Leave at 0", o.Leave(), 0)
	check(t, "the outer one", &o, 9, 0, 1)
	check(t, "the inner one", &o.inner, 9, 0, 1)
	o.Reset()
	check(t, "reset", &o.inner.Meter, 0, 0, 0)
}

func TestEmbeddedByPointer(t *testing.T) {
	var m meter.Meter
	a, b := shared{&m}, shared{&m}
	is(t, "the first one's", a.Spend(2), 2)
	is(t, "the second one's", b.Spend(3), 5)
	is(t, "the first one's", a.Enter(), 1)
	is(t, "the second one's", b.Enter(), 2)
	check(t, "the meter of both", &m, 5, 2, 2)
	b.Reset()
	check(t, "the first one", a, 0, 0, 0)
}
