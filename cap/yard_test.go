package cap_test

import (
	"math/rand"
	"reflect"
	"slices"
	"testing"

	"hackamore/api"
	"hackamore/cap"
)

func newYard(t *testing.T, holders int) cap.Yard {
	t.Helper()
	y, e := cap.NewYard(holders)
	if e != api.OK || len(y.Holders) != holders || len(y.Fields) > 0 {
		t.Fatalf("NewYard(%d): %v, error %d", holders, y, e)
	}
	return y
}

// do does acts that are fine.
func do(t *testing.T, y cap.Yard, acts ...cap.Act) cap.Yard {
	t.Helper()
	for _, a := range acts {
		next, e := cap.Do(y, a)
		if e != api.OK {
			t.Fatalf("%v: error %d in %v", a, e, y)
		}
		y = next
	}
	return y
}

// refused does acts that are none, one by one.
func refused(t *testing.T, y cap.Yard, want api.Errno, acts ...cap.Act) {
	t.Helper()
	for _, a := range acts {
		if next, e := cap.Do(y, a); e != want || len(next.Holders)+len(next.Fields) > 0 {
			t.Errorf("%v: %v, error %d, want %d", a, next, e, want)
		}
	}
}

func held(t *testing.T, y cap.Yard, holder int, want ...cap.Held) {
	t.Helper()
	if !slices.Equal(y.Holders[holder], want) {
		t.Errorf("the holder %d has %v, want %v", holder, y.Holders[holder], want)
	}
}

const (
	iso, trn, ref, val, box, tag = api.Iso, api.Trn, api.Ref, api.Val, api.Box, api.Tag
)

// TestExample is the chapter's example.
func TestExample(t *testing.T) {
	y := do(t, newYard(t, 2),
		cap.Act{Op: cap.Make, A: ref, B: ref, C: iso},
		cap.Act{Op: cap.Make, A: ref, B: ref, C: iso},
		cap.Act{Op: cap.Write, A: 0, B: 0, C: 1, D: 1})
	held(t, y, 0, cap.Held{Thing: 0, Cap: iso})
	if !slices.Equal(y.Fields[0], []cap.Held{{Thing: 1, Cap: ref}, {Thing: -1, Cap: ref}}) {
		t.Errorf("fields %v", y.Fields[0])
	}
	if l := cap.Seen(y, 0); !slices.Equal(l, []cap.Held{{Thing: 0, Cap: iso}, {Thing: 1, Cap: tag}}) {
		t.Errorf("seen %v", l)
	}
	refused(t, y, api.ErrCap, cap.Act{Op: cap.Read, A: 0, B: 0, C: ref})
	y = do(t, y, cap.Act{Op: cap.Move, A: 0, B: ref}, cap.Act{Op: cap.Read, A: 0, B: 0, C: ref})
	held(t, y, 0, cap.Held{Thing: 0, Cap: ref}, cap.Held{Thing: 1, Cap: ref})
	refused(t, y, api.ErrCap, cap.Act{Op: cap.Give, A: 0, B: 1, C: iso, D: 1})
}

// TestCheckYard is P7.1 for yards that are none.
func TestCheckYard(t *testing.T) {
	for n := -1; n < 7; n++ {
		y, e := cap.NewYard(n)
		if ok := n >= 1 && n <= 4; ok != (e == api.OK) || !ok && (e != api.ErrRange || len(y.Holders) > 0) {
			t.Errorf("NewYard(%d): error %d", n, e)
		}
	}
	fields := []cap.Held{{Thing: -1, Cap: ref}, {Thing: 0, Cap: val}}
	many := make([][]cap.Held, 51)
	for i := range many {
		many[i] = fields
	}
	refs := make([]cap.Held, 21)
	for i := range refs {
		refs[i] = cap.Held{Thing: 0, Cap: tag}
	}
	for i, x := range []struct {
		y    cap.Yard
		want api.Errno
	}{
		{cap.Yard{}, api.ErrSize},
		{cap.Yard{Holders: make([][]cap.Held, 5)}, api.ErrSize},
		{cap.Yard{Holders: make([][]cap.Held, 4)}, api.OK},
		{cap.Yard{Holders: [][]cap.Held{{}}, Fields: many}, api.ErrSize},
		{cap.Yard{Holders: [][]cap.Held{{}}, Fields: many[:50]}, api.OK},
		{cap.Yard{Holders: [][]cap.Held{{}, refs}, Fields: many[:1]}, api.ErrSize},
		{cap.Yard{Holders: [][]cap.Held{{}, refs[:20]}, Fields: many[:1]}, api.OK},
		{cap.Yard{Holders: [][]cap.Held{{}}, Fields: [][]cap.Held{fields[:1]}}, api.ErrSize},
		{cap.Yard{Holders: [][]cap.Held{{{Thing: 9, Cap: 7}}}, Fields: [][]cap.Held{fields, nil}}, api.ErrSize},
		{cap.Yard{Holders: [][]cap.Held{{{Thing: 9, Cap: ref}, {Thing: 0, Cap: 7}}}, Fields: many[:1]}, api.ErrCap},
		{cap.Yard{Holders: [][]cap.Held{{{Thing: 9, Cap: ref}}}, Fields: [][]cap.Held{{{Thing: 0, Cap: ref}, {Thing: 0}}}}, api.ErrCap},
		{cap.Yard{Holders: [][]cap.Held{{{Thing: 1, Cap: ref}}}, Fields: many[:1]}, api.ErrRange},
		{cap.Yard{Holders: [][]cap.Held{{{Thing: -1, Cap: ref}}}, Fields: many[:1]}, api.ErrRange},
		{cap.Yard{Holders: [][]cap.Held{{}}, Fields: [][]cap.Held{{{Thing: -2, Cap: ref}, {Thing: -1, Cap: ref}}}}, api.ErrRange},
		{cap.Yard{Holders: [][]cap.Held{{}}, Fields: [][]cap.Held{{{Thing: -1, Cap: ref}, {Thing: 1, Cap: ref}}}}, api.ErrRange},
	} {
		if e := cap.Check(x.y); e != x.want {
			t.Errorf("yard %d: error %d, want %d", i, e, x.want)
		}
		if x.want == api.OK {
			continue
		}
		refused(t, x.y, x.want, cap.Act{Op: cap.Make, Holder: 7, A: 9})
		if l := cap.Seen(x.y, 0); len(l) > 0 {
			t.Errorf("yard %d: seen %v", i, l)
		}
		if thing, w, r, found := cap.Race(x.y); thing+w+r != 0 || found {
			t.Errorf("yard %d: a race", i)
		}
	}
}

// TestRefused is P7.1 for the errors of acts, in their order.
func TestRefused(t *testing.T) {
	y := do(t, newYard(t, 3),
		cap.Act{Op: cap.Make, A: ref, B: iso, C: ref},
		cap.Act{Op: cap.Make, A: trn, B: val, C: val},
		cap.Act{Op: cap.Make, A: ref, B: ref, C: tag},
		cap.Act{Op: cap.Make, A: ref, B: ref, C: iso})
	refused(t, y, api.ErrRange,
		cap.Act{Op: 9, Holder: -1}, cap.Act{Op: cap.Make, Holder: 3},
		cap.Act{Op: cap.Copy, A: 4, B: 9}, cap.Act{Op: cap.Copy, A: -1, B: ref}, cap.Act{Op: cap.Copy, Holder: 1, B: ref},
		cap.Act{Op: cap.Move, A: 4, B: 9},
		cap.Act{Op: cap.Read, A: 4, C: 9}, cap.Act{Op: cap.Read, A: 0, B: 2, C: 9}, cap.Act{Op: cap.Read, A: 0, B: -1}, cap.Act{Op: cap.Read, A: 2, B: 2},
		cap.Act{Op: cap.Write, A: 4, D: 9}, cap.Act{Op: cap.Write, B: 2, D: 9}, cap.Act{Op: cap.Write, C: 4, D: 9}, cap.Act{Op: cap.Write, A: 2, C: -1, D: 9},
		cap.Act{Op: cap.Give, B: 3, A: 9}, cap.Act{Op: cap.Give, B: -1}, cap.Act{Op: cap.Give, A: 4, B: 1, C: 9, D: 9},
		cap.Act{Op: cap.Drop, A: 4}, cap.Act{Op: cap.Drop, A: -1})
	refused(t, y, api.ErrArg,
		cap.Act{Op: -1}, cap.Act{Op: 7},
		cap.Act{Op: cap.Write, A: 1, C: 1, D: 1}, cap.Act{Op: cap.Write, A: 2, C: 1, D: 2}, cap.Act{Op: cap.Write, A: 0, C: 2, D: -1},
		cap.Act{Op: cap.Give, A: 9, B: 0}, cap.Act{Op: cap.Give, A: 0, B: 1, C: 9, D: 2})
	refused(t, y, api.ErrCap,
		cap.Act{Op: cap.Make, A: 0, B: 1, C: 1}, cap.Act{Op: cap.Make, A: 1, B: 7, C: 1}, cap.Act{Op: cap.Make, A: 1, B: 1, C: -1},
		cap.Act{Op: cap.Copy, A: 0, B: 0}, cap.Act{Op: cap.Copy, A: 0, B: val}, cap.Act{Op: cap.Copy, A: 3, B: iso}, cap.Act{Op: cap.Copy, A: 3, B: box},
		cap.Act{Op: cap.Move, A: 0, B: iso}, cap.Act{Op: cap.Move, A: 2, B: box}, cap.Act{Op: cap.Move, A: 1, B: 99},
		cap.Act{Op: cap.Read, A: 2, B: 0, C: tag},
		cap.Act{Op: cap.Write, A: 0, B: 0, C: 1}, cap.Act{Op: cap.Write, A: 1, B: 1, C: 1}, cap.Act{Op: cap.Write, A: 0, B: 1, C: 3}, cap.Act{Op: cap.Write, A: 2, B: 0, C: 3, D: 1},
		cap.Act{Op: cap.Give, A: 0, B: 1, C: ref, D: 1}, cap.Act{Op: cap.Give, A: 0, B: 1, C: val, D: 1}, cap.Act{Op: cap.Give, A: 3, B: 1, C: iso})
	refused(t, y, api.ErrNone, cap.Act{Op: cap.Read, A: 0, B: 0, C: 9}, cap.Act{Op: cap.Read, A: 1, B: 1, C: ref})
}

// TestActs is P7.1 and P7.7 for acts that are done.
func TestActs(t *testing.T) {
	y := do(t, newYard(t, 2),
		cap.Act{Op: cap.Make, A: iso, B: trn, C: ref},
		cap.Act{Op: cap.Make, A: ref, B: val, C: iso},
		cap.Act{Op: cap.Make, A: ref, B: val, C: trn})
	y = do(t, y, cap.Act{Op: cap.Write, A: 0, B: 0, C: 1, D: 1})
	held(t, y, 0, cap.Held{Thing: 0, Cap: ref}, cap.Held{Thing: 2, Cap: trn})
	y = do(t, y, cap.Act{Op: cap.Make, A: tag, B: tag, C: iso}, cap.Act{Op: cap.Write, A: 0, B: 0, C: 2, D: 1})
	held(t, y, 0, cap.Held{Thing: 0, Cap: ref}, cap.Held{Thing: 2, Cap: trn}, cap.Held{Thing: 1, Cap: iso})
	y = do(t, y, cap.Act{Op: cap.Read, A: 0, B: 0, C: tag}, cap.Act{Op: cap.Copy, A: 1, B: box})
	held(t, y, 0, cap.Held{Thing: 0, Cap: ref}, cap.Held{Thing: 2, Cap: trn}, cap.Held{Thing: 1, Cap: iso}, cap.Held{Thing: 3, Cap: tag}, cap.Held{Thing: 2, Cap: box})
	y = do(t, y, cap.Act{Op: cap.Give, A: 2, B: 1, C: iso, D: 1}, cap.Act{Op: cap.Give, A: 0, B: 1, C: tag}, cap.Act{Op: cap.Drop, A: 2})
	held(t, y, 0, cap.Held{Thing: 0, Cap: ref}, cap.Held{Thing: 2, Cap: trn}, cap.Held{Thing: 2, Cap: box})
	held(t, y, 1, cap.Held{Thing: 1, Cap: iso}, cap.Held{Thing: 0, Cap: tag})
	y = do(t, y, cap.Act{Op: cap.Write, A: 0, B: 1, C: 1, D: 1})
	held(t, y, 0, cap.Held{Thing: 0, Cap: ref}, cap.Held{Thing: 2, Cap: box})
	y = do(t, y, cap.Act{Op: cap.Make, A: iso, B: iso, C: val}, cap.Act{Op: cap.Give, A: 2, B: 1, C: val})
	held(t, y, 1, cap.Held{Thing: 1, Cap: iso}, cap.Held{Thing: 0, Cap: tag}, cap.Held{Thing: 4, Cap: val})
	want := []cap.Held{{Thing: 0, Cap: ref}, {Thing: 2, Cap: trn}, {Thing: 2, Cap: box}, {Thing: 3, Cap: iso}, {Thing: 4, Cap: val}}
	if l := cap.Seen(y, 0); !slices.Equal(l, want) {
		t.Errorf("seen %v", l)
	}
	if l := cap.Seen(y, 2); len(l) > 0 {
		t.Errorf("nobody sees %v", l)
	}
}

// TestFull is P7.1 for the limits of yards, on both sides.
func TestFull(t *testing.T) {
	y := newYard(t, 4)
	for i := range 50 {
		y = do(t, y, cap.Act{Op: cap.Make, Holder: i / 20, A: ref, B: ref, C: iso})
	}
	refused(t, y, api.ErrFull, cap.Act{Op: cap.Make, Holder: 3, A: ref, B: ref, C: ref}, cap.Act{Op: cap.Copy, A: 0, B: tag}, cap.Act{Op: cap.Give, Holder: 2, A: 0, B: 1, C: iso, D: 1})
	refused(t, y, api.ErrCap, cap.Act{Op: cap.Make, Holder: 3, A: ref, B: ref}, cap.Act{Op: cap.Copy, A: 0, B: ref})
	y = do(t, y, cap.Act{Op: cap.Move, A: 0, B: ref}, cap.Act{Op: cap.Write, A: 0, B: 0, C: 1, D: 1}, cap.Act{Op: cap.Copy, A: 0, B: ref}, cap.Act{Op: cap.Write, A: 0, B: 0, C: 1, D: 1})
	held(t, cap.Yard{Holders: [][]cap.Held{y.Holders[0][18:]}}, 0, cap.Held{Thing: 0, Cap: ref}, cap.Held{Thing: 1, Cap: ref})
	refused(t, y, api.ErrFull, cap.Act{Op: cap.Write, A: 0, B: 0, C: 18, D: 0})
	do(t, y, cap.Act{Op: cap.Write, A: 0, B: 1, C: 18, D: 0})
}

// TestNoRace is P7.6 and P7.7, by chance acts.
func TestNoRace(t *testing.T) {
	r := rand.New(rand.NewSource(7))
	done := [7]int{}
	for range 1000 {
		y := newYard(t, 1+r.Intn(4))
		for range 120 {
			a := draw(r, y)
			before := deep(y)
			next, e := cap.Do(y, a)
			if !reflect.DeepEqual(deep(y), before) {
				t.Fatalf("%v changes its yard", a)
			}
			if e != api.OK {
				continue
			}
			done[a.Op]++
			y = next
			isRight(t, y)
		}
	}
	if slices.Min(done[:]) < 50 {
		t.Errorf("acts that were done: %v", done)
	}
}

// draw returns an act that has a chance to be one.
func draw(r *rand.Rand, y cap.Yard) cap.Act {
	a := cap.Act{Op: []int{0, 0, 0, 1, 1, 2, 3, 3, 3, 3, 3, 4, 4, 4, 4, 4, 5, 5, 5, 6}[r.Intn(20)], Holder: r.Intn(len(y.Holders)), A: r.Intn(4), B: r.Intn(7), C: r.Intn(7), D: r.Intn(2)}
	switch {
	case a.Op == cap.Make && len(y.Fields) < 20:
		a.A, a.B, a.C = 1+r.Intn(6), 1+r.Intn(6), 1+r.Intn(3)
	case a.Op == cap.Read || a.Op == cap.Write:
		a.B = r.Intn(2)
	}
	return a
}

func deep(y cap.Yard) [2][][]cap.Held {
	var out [2][][]cap.Held
	for i, lists := range [2][][]cap.Held{y.Holders, y.Fields} {
		for _, l := range lists {
			out[i] = append(out[i], append([]cap.Held{}, l...))
		}
	}
	return out
}

// isRight asks of a yard what P7.6 says.
func isRight(t *testing.T, y cap.Yard) {
	t.Helper()
	if e := cap.Check(y); e != api.OK {
		t.Fatalf("error %d: %v", e, y)
	}
	if thing, w, r, found := cap.Race(y); found {
		t.Fatalf("a race of %d and %d for %d: %v", w, r, thing, y)
	}
	for i, l := range y.Holders {
		for j, h := range l {
			for k, others := range y.Holders {
				for n, other := range others {
					if other.Thing != h.Thing || i == k && j == n {
						continue
					}
					if i == k && !cap.Local(h.Cap, other.Cap) || i != k && !cap.Global(h.Cap, other.Cap) {
						t.Fatalf("%v beside %v: %v", h, other, y)
					}
				}
			}
			for k := range y.Holders {
				for _, s := range cap.Seen(y, k) {
					own := k == i && s == h
					if s.Thing == h.Thing && !own && (h.Cap == iso && s.Cap != tag || h.Cap == trn && cap.Writes(s.Cap)) {
						t.Fatalf("%v is seen as %v: %v", h, s, y)
					}
				}
			}
		}
	}
}

// TestRace is P7.1 for yards that no acts make.
func TestRace(t *testing.T) {
	none := cap.Held{Thing: -1, Cap: ref}
	y := cap.Yard{
		Holders: [][]cap.Held{{{Thing: 1, Cap: box}}, {{Thing: 0, Cap: ref}}, {{Thing: 1, Cap: trn}, {Thing: 0, Cap: box}}},
		Fields:  [][]cap.Held{{{Thing: 2, Cap: ref}, none}, {{Thing: 2, Cap: val}, none}, {none, none}},
	}
	if thing, w, r, found := cap.Race(y); thing != 0 || w != 1 || r != 2 || !found {
		t.Errorf("%d, %d, %d, %v", thing, w, r, found)
	}
	y.Holders[1][0].Cap = tag
	if thing, w, r, found := cap.Race(y); thing != 1 || w != 2 || r != 0 || !found {
		t.Errorf("%d, %d, %d, %v", thing, w, r, found)
	}
	y.Holders[1][0].Cap = ref
	y.Holders[2] = nil
	if thing, w, r, found := cap.Race(y); thing != 2 || w != 1 || r != 0 || !found {
		t.Errorf("%d, %d, %d, %v", thing, w, r, found)
	}
	y.Fields[1][0].Cap = tag
	if thing, w, r, found := cap.Race(y); thing+w+r != 0 || found {
		t.Errorf("%d, %d, %d, %v", thing, w, r, found)
	}
}
