package moot_test

import (
	"math"
	"strings"
	"testing"

	"moot/api"
	"moot/moot"
)

func ins(at, b, site int) api.Op {
	return api.Op{Kind: api.Insert, At: at, Byte: b, Site: site}
}

func del(at, site int) api.Op { return api.Op{Kind: api.Delete, At: at, Site: site} }

func none(site int) api.Op { return api.Op{Site: site} }

// wrongOps: each is wrong in one way alone, so that no check hides behind another.
func wrongOps() []api.Op {
	var l []api.Op
	for _, kind := range []int{math.MinInt, -1, 3, math.MaxInt} {
		l = append(l, api.Op{Kind: kind})
	}
	for _, site := range []int{math.MinInt, -1, 4, math.MaxInt} {
		l = append(l, none(site), ins(0, 0, site), del(0, site))
	}
	for _, at := range []int{math.MinInt, -1, 1001, math.MaxInt} {
		l = append(l, ins(at, 0, 0), del(at, 0))
	}
	for _, b := range []int{math.MinInt, -1, 256, math.MaxInt} {
		l = append(l, ins(0, b, 0))
	}
	for _, n := range []int{math.MinInt, -1, 1, math.MaxInt} {
		l = append(l, api.Op{At: n}, api.Op{Byte: n}, api.Op{Kind: api.Delete, Byte: n})
	}
	return append(l, api.Op{Kind: api.Delete, Byte: 255}, api.Op{At: 1000}, api.Op{Byte: 255})
}

func rightOps() []api.Op {
	var l []api.Op
	for site := range 4 {
		l = append(l, none(site))
		for _, at := range []int{0, 1, 2, 500, 999, 1000} {
			l = append(l, ins(at, 0, site), ins(at, 'x', site), ins(at, 255, site), del(at, site))
		}
	}
	return l
}

func checkApply(t *testing.T, text string, o api.Op, want string, e api.Errno) {
	t.Helper()
	if s, f := moot.Apply(text, o); s != want || f != e {
		t.Errorf("P3: Apply(%q, %+v) = %q, %d, want %q, %d", text, o, s, f, want, e)
	}
}

func checkTurn(t *testing.T, a, b, x, y api.Op, e api.Errno) {
	t.Helper()
	if u, v, f := moot.Turn(a, b); u != x || v != y || f != e {
		t.Errorf("P3: Turn(%+v, %+v) = %+v, %+v, %d, want %+v, %+v, %d", a, b, u, v, f, x, y, e)
	}
}

func TestRight(t *testing.T) {
	for _, o := range rightOps() {
		if e := moot.Right(o); e != api.OK {
			t.Errorf("P3: Right(%+v) = %d, want OK", o, e)
		}
	}
	for _, o := range wrongOps() {
		if e := moot.Right(o); e != api.ErrOp {
			t.Errorf("P3: Right(%+v) = %d, want ErrOp", o, e)
		}
	}
}

func TestApplyInsert(t *testing.T) {
	checkApply(t, "abc", ins(0, 'x', 0), "xabc", api.OK)
	checkApply(t, "abc", ins(1, 'x', 1), "axbc", api.OK)
	checkApply(t, "abc", ins(2, 'x', 2), "abxc", api.OK)
	checkApply(t, "abc", ins(3, 'x', 3), "abcx", api.OK)
	checkApply(t, "", ins(0, 'x', 0), "x", api.OK)
	checkApply(t, "abc", ins(1, 0, 0), "a\x00bc", api.OK)
	checkApply(t, "abc", ins(1, 128, 0), "a\x80bc", api.OK)
	checkApply(t, "abc", ins(3, 255, 0), "abc\xff", api.OK)
	checkApply(t, "\u00e4", ins(1, 'x', 0), "\xc3x\xa4", api.OK)
}

func TestApplyDelete(t *testing.T) {
	checkApply(t, "abc", del(0, 0), "bc", api.OK)
	checkApply(t, "abc", del(1, 1), "ac", api.OK)
	checkApply(t, "abc", del(2, 3), "ab", api.OK)
	checkApply(t, "a", del(0, 0), "", api.OK)
	checkApply(t, "\u00e4", del(1, 0), "\xc3", api.OK)
	checkApply(t, "\xff\x00", del(0, 0), "\x00", api.OK)
}

func TestApplyNothing(t *testing.T) {
	for site := range 4 {
		checkApply(t, "", none(site), "", api.OK)
		checkApply(t, "abc", none(site), "abc", api.OK)
		checkApply(t, "\xff\x00\u00e4", none(site), "\xff\x00\u00e4", api.OK)
	}
}

// The length of a text has no bound here, only At has one.
func TestApplyLongText(t *testing.T) {
	text := strings.Repeat("a", 999)
	checkApply(t, text, ins(999, 'x', 0), text+"x", api.OK)
	checkApply(t, text, ins(1000, 'x', 0), "", api.ErrOp)
	checkApply(t, text, del(999, 0), "", api.ErrOp)
	text += "b"
	checkApply(t, text, ins(1000, 'x', 0), text+"x", api.OK)
	checkApply(t, text, del(1000, 0), "", api.ErrOp)
	checkApply(t, text+"c", del(1000, 0), text, api.OK)
	checkApply(t, text+"cde", ins(1000, 'x', 0), text+"xcde", api.OK)
	checkApply(t, text+"cde", ins(1001, 'x', 0), "", api.ErrOp)
	checkApply(t, text+"cde", del(1001, 0), "", api.ErrOp)
}

func TestApplyDoesNotFit(t *testing.T) {
	checkApply(t, "", ins(1, 'x', 0), "", api.ErrOp)
	checkApply(t, "", del(0, 0), "", api.ErrOp)
	checkApply(t, "abc", ins(4, 'x', 0), "", api.ErrOp)
	checkApply(t, "abc", ins(1000, 'x', 0), "", api.ErrOp)
	checkApply(t, "abc", del(3, 0), "", api.ErrOp)
	checkApply(t, "abc", del(4, 0), "", api.ErrOp)
	checkApply(t, "abc", del(1000, 0), "", api.ErrOp)
}

func TestApplyWrongOp(t *testing.T) {
	for _, o := range wrongOps() {
		checkApply(t, "", o, "", api.ErrOp)
		checkApply(t, "abc", o, "", api.ErrOp)
		checkApply(t, strings.Repeat("a", 2000), o, "", api.ErrOp)
	}
}

func TestTurnExamples(t *testing.T) {
	checkTurn(t, ins(2, 'x', 0), ins(2, 'y', 1), ins(2, 'x', 0), ins(3, 'y', 1), api.OK)
	checkTurn(t, del(4, 0), del(4, 1), none(0), none(1), api.OK)
	checkTurn(t, ins(3, 'x', 0), del(1, 1), ins(2, 'x', 0), del(1, 1), api.OK)
	checkTurn(t, ins(1, 'x', 0), del(1, 1), ins(1, 'x', 0), del(2, 1), api.OK)
}

func TestTurnInserts(t *testing.T) {
	checkTurn(t, ins(1, 'x', 3), ins(2, 'y', 0), ins(1, 'x', 3), ins(3, 'y', 0), api.OK)
	checkTurn(t, ins(2, 'x', 0), ins(1, 'y', 3), ins(3, 'x', 0), ins(1, 'y', 3), api.OK)
	checkTurn(t, ins(0, 0, 0), ins(0, 255, 3), ins(0, 0, 0), ins(1, 255, 3), api.OK)
	checkTurn(t, ins(0, 255, 3), ins(0, 0, 0), ins(1, 255, 3), ins(0, 0, 0), api.OK)
	checkTurn(t, ins(5, 'x', 2), ins(5, 'y', 2), ins(5, 'x', 2), ins(6, 'y', 2), api.OK)
	checkTurn(t, ins(5, 'y', 2), ins(5, 'x', 2), ins(5, 'y', 2), ins(6, 'x', 2), api.OK)
}

func TestTurnInsertAndDelete(t *testing.T) {
	checkTurn(t, ins(1, 'x', 3), del(2, 0), ins(1, 'x', 3), del(3, 0), api.OK)
	checkTurn(t, ins(2, 'x', 3), del(2, 0), ins(2, 'x', 3), del(3, 0), api.OK)
	checkTurn(t, ins(3, 'x', 3), del(2, 0), ins(2, 'x', 3), del(2, 0), api.OK)
	checkTurn(t, del(2, 0), ins(1, 'x', 3), del(3, 0), ins(1, 'x', 3), api.OK)
	checkTurn(t, del(2, 0), ins(2, 'x', 3), del(3, 0), ins(2, 'x', 3), api.OK)
	checkTurn(t, del(2, 0), ins(3, 'x', 3), del(2, 0), ins(2, 'x', 3), api.OK)
	checkTurn(t, ins(1, 0, 1), del(0, 1), ins(0, 0, 1), del(0, 1), api.OK)
	checkTurn(t, del(0, 1), ins(0, 255, 1), del(1, 1), ins(0, 255, 1), api.OK)
}

func TestTurnDeletes(t *testing.T) {
	checkTurn(t, del(1, 3), del(2, 0), del(1, 3), del(1, 0), api.OK)
	checkTurn(t, del(2, 3), del(1, 0), del(1, 3), del(1, 0), api.OK)
	checkTurn(t, del(0, 3), del(0, 2), none(3), none(2), api.OK)
	checkTurn(t, del(0, 1), del(1, 1), del(0, 1), del(0, 1), api.OK)
	checkTurn(t, del(1000, 2), del(1000, 2), none(2), none(2), api.OK)
}

func TestTurnNothing(t *testing.T) {
	for _, o := range rightOps() {
		for site := range 4 {
			checkTurn(t, none(site), o, none(site), o, api.OK)
			checkTurn(t, o, none(site), o, none(site), api.OK)
		}
	}
}

// What comes out may be past MaxAt, and is then right no more.
func TestTurnAtTheBound(t *testing.T) {
	checkTurn(t, ins(1000, 'x', 0), ins(1000, 'y', 1), ins(1000, 'x', 0), ins(1001, 'y', 1), api.OK)
	checkTurn(t, ins(1000, 'x', 1), ins(1000, 'y', 0), ins(1001, 'x', 1), ins(1000, 'y', 0), api.OK)
	checkTurn(t, ins(1000, 'x', 0), ins(999, 'y', 3), ins(1001, 'x', 0), ins(999, 'y', 3), api.OK)
	checkTurn(t, ins(1000, 'x', 0), del(1000, 1), ins(1000, 'x', 0), del(1001, 1), api.OK)
	checkTurn(t, del(1000, 0), ins(1000, 'x', 1), del(1001, 0), ins(1000, 'x', 1), api.OK)
	checkTurn(t, del(999, 0), ins(1000, 'x', 1), del(999, 0), ins(999, 'x', 1), api.OK)
	checkTurn(t, del(1000, 0), del(999, 1), del(999, 0), del(999, 1), api.OK)
	checkTurn(t, del(1001, 0), ins(0, 'x', 1), api.Op{}, api.Op{}, api.ErrOp)
}

func TestTurnWrongOp(t *testing.T) {
	for _, o := range wrongOps() {
		for _, r := range rightOps() {
			checkTurn(t, o, r, api.Op{}, api.Op{}, api.ErrOp)
			checkTurn(t, r, o, api.Op{}, api.Op{}, api.ErrOp)
		}
		checkTurn(t, o, o, api.Op{}, api.Op{}, api.ErrOp)
	}
}

// steps tells by how much the Ats of two ops (no nothing among them) change, by the document's words; gone: both become nothing.
func steps(a, b api.Op) (da, db int, gone bool) {
	switch {
	case a.Kind == api.Delete && b.Kind == api.Delete && a.At == b.At:
		return 0, 0, true
	case a.Kind == api.Delete && b.Kind == api.Delete && a.At > b.At:
		return -1, 0, false
	case a.Kind == api.Delete && b.Kind == api.Delete:
		return 0, -1, false
	case a.Kind == api.Delete && b.At <= a.At:
		return 1, 0, false
	case a.Kind == api.Delete:
		return 0, -1, false
	case b.Kind == api.Delete && a.At > b.At:
		return -1, 0, false
	case b.Kind == api.Insert && (a.At > b.At || a.At == b.At && a.Site > b.Site):
		return 1, 0, false
	}
	return 0, 1, false
}

func TestTurnEveryPair(t *testing.T) {
	for _, a := range rightOps() {
		for _, b := range rightOps() {
			if a.Kind == api.Nothing || b.Kind == api.Nothing {
				continue
			}
			x, y := a, b
			da, db, gone := steps(a, b)
			x.At += da
			y.At += db
			if gone {
				x, y = none(a.Site), none(b.Site)
			}
			checkTurn(t, a, b, x, y, api.OK)
		}
	}
}

func opsThatFit(n int) []api.Op {
	var l []api.Op
	for site := range 4 {
		l = append(l, none(site))
		for at := range n + 1 {
			l = append(l, ins(at, 'w'+site, site))
		}
		for at := range n {
			l = append(l, del(at, site))
		}
	}
	return l
}

func both(t *testing.T, text string, first, second api.Op) string {
	t.Helper()
	for _, o := range []api.Op{first, second} {
		s, e := moot.Apply(text, o)
		if e != api.OK {
			t.Errorf("P3: Apply(%q, %+v) = %d, want OK", text, o, e)
		}
		text = s
	}
	return text
}

// Either way round the same text comes of two ops: so P8 says, and the rules of turning are there for it.
func TestTurnedOpsMeet(t *testing.T) {
	for _, text := range []string{"", "a", "ab", "abcd"} {
		for _, a := range opsThatFit(len(text)) {
			for _, b := range opsThatFit(len(text)) {
				x, y, _ := moot.Turn(a, b)
				if s, u := both(t, text, a, y), both(t, text, b, x); s != u {
					t.Errorf("P3: %q with %+v and %+v: %q and %q", text, a, b, s, u)
				}
			}
		}
	}
}

// isOp says what Right must, field by field.
func isOp(o api.Op) bool {
	kind := o.Kind == api.Nothing || o.Kind == api.Insert || o.Kind == api.Delete
	at := o.At >= 0 && o.At <= 1000 && (o.At == 0 || o.Kind != api.Nothing)
	b := o.Byte >= 0 && o.Byte <= 255 && (o.Byte == 0 || o.Kind == api.Insert)
	return kind && at && b && o.Site >= 0 && o.Site <= 3
}

func checkTogether(t *testing.T, o api.Op) {
	t.Helper()
	want := api.OK
	if !isOp(o) {
		want = api.ErrOp
	}
	if e := moot.Right(o); e != want {
		t.Errorf("P3: Right(%+v) = %d, want %d", o, e, want)
	}
	s, e := moot.Apply(strings.Repeat("a", 1001), o)
	if e != want || e != api.OK && s != "" {
		t.Errorf("P3: Apply to 1001 bytes of %+v = %q, %d, want %d", o, s, e, want)
	}
	x, y, e := moot.Turn(o, o)
	if e != want || e != api.OK && (x != api.Op{} || y != api.Op{}) {
		t.Errorf("P3: Turn(%+v, the same) = %+v, %+v, %d, want %d", o, x, y, e, want)
	}
}

// No number in any field brings a panic, or another answer than the words of the document.
func TestOpsOfAllNumbers(t *testing.T) {
	numbers := []int{math.MinInt, -1, 0, 1, 2, 3, 4, 255, 256, 1000, 1001, math.MaxInt}
	for _, kind := range numbers {
		for _, at := range numbers {
			for _, b := range numbers {
				for _, site := range numbers {
					checkTogether(t, api.Op{Kind: kind, At: at, Byte: b, Site: site})
				}
			}
		}
	}
}

// P2: the same arguments have the same answer, whatever was asked between.
func TestOpsKeepNothing(t *testing.T) {
	checkTurn(t, del(4, 0), del(4, 1), none(0), none(1), api.OK)
	checkApply(t, "abc", del(1, 0), "ac", api.OK)
	checkTurn(t, ins(4, 'x', 0), del(1, 1), ins(3, 'x', 0), del(1, 1), api.OK)
	checkApply(t, "abc", ins(9, 'x', 0), "", api.ErrOp)
	checkTurn(t, del(4, 0), del(4, 1), none(0), none(1), api.OK)
	checkApply(t, "abc", del(1, 0), "ac", api.OK)
}
