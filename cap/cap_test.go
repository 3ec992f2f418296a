package cap_test

import (
	"slices"
	"strings"
	"testing"

	"hackamore/api"
	"hackamore/cap"
)

// odd has numbers around those of capabilities, and far from them.
var odd = []int{-1 << 62, -7, -1, 0, 1, 2, 3, 4, 5, 6, 7, 8, 9, 10, 11, 12, 13, 1 << 40}

var six = []int{api.Iso, api.Trn, api.Ref, api.Val, api.Box, api.Tag}

// kind is a capability with a mark.
type kind struct{ c, mark int }

// written reads `iso^` and the like. A capability for which marks play no part may stand for any mark.
func written(t *testing.T, s string) kind {
	t.Helper()
	k := kind{}
	name := strings.TrimRight(s, "^!")
	switch s[len(name):] {
	case "^":
		k.mark = api.Ephemeral
	case "!":
		k.mark = api.Aliased
	}
	c, e := cap.Parse(name)
	if e != api.OK {
		t.Fatalf("%q is no capability", s)
	}
	k.c = c
	return k
}

// plainly takes the mark away where it plays no part.
func plainly(k kind) kind {
	if k.c != api.Iso && k.c != api.Trn {
		k.mark = api.Plain
	}
	return k
}

func allKinds() []kind {
	var l []kind
	for _, c := range six {
		for mark := range 3 {
			l = append(l, kind{c, mark})
		}
	}
	return l
}

// TestNames is P7.1 and P7.5 for names and sets.
func TestNames(t *testing.T) {
	names := strings.Fields("iso trn ref val box tag #read #send #share #alias #any")
	for i, s := range names {
		if cap.Name(i+1) != s {
			t.Errorf("Name(%d): %q", i+1, cap.Name(i+1))
		}
		if c, e := cap.Parse(s); c != i+1 || e != api.OK {
			t.Errorf("Parse(%s): %d, error %d", s, c, e)
		}
	}
	for _, s := range []string{"", "Iso", "iso ", "#", "#Read", "read", "iso^", "any"} {
		if c, e := cap.Parse(s); c != 0 || e != api.ErrNone {
			t.Errorf("Parse(%q): %d, error %d", s, c, e)
		}
	}
	members := map[int]string{7: "ref val box", 8: "iso val tag", 9: "val tag", 10: "ref val box tag", 11: "iso trn ref val box tag"}
	for _, c := range odd {
		if named := c >= 1 && c <= 11; (cap.Name(c) != "") != named {
			t.Errorf("Name(%d): %q", c, cap.Name(c))
		}
		if cap.Is(c) != slices.Contains(six, c) {
			t.Errorf("Is(%d): %v", c, cap.Is(c))
		}
		want := strings.Fields(members[c])
		if cap.Is(c) {
			want = []string{names[c-1]}
		}
		var got []string
		for _, m := range cap.Members(c) {
			got = append(got, cap.Name(m))
		}
		if !slices.Equal(got, want) {
			t.Errorf("Members(%d): %v, want %v", c, got, want)
		}
	}
}

// TestPermits is P7.1 for what capabilities permit.
func TestPermits(t *testing.T) {
	for _, c := range odd {
		reads := slices.Contains([]int{api.Iso, api.Trn, api.Ref, api.Val, api.Box}, c)
		writes := slices.Contains([]int{api.Iso, api.Trn, api.Ref}, c)
		sendable := slices.Contains([]int{api.Iso, api.Val, api.Tag}, c)
		if cap.Reads(c) != reads || cap.Writes(c) != writes || cap.Sendable(c) != sendable {
			t.Errorf("%d: %v, %v, %v", c, cap.Reads(c), cap.Writes(c), cap.Sendable(c))
		}
	}
}

const fits = `iso^: iso^ iso iso! trn^ trn trn! ref val box tag
iso: iso iso! tag
iso!: iso! tag
trn^: trn^ trn trn! ref val box tag
trn: trn trn! box tag
trn!: trn! box tag
ref: ref box tag
val: val box tag
box: box tag
tag: tag`

// TestFits is P7.1 for the table of what fits.
func TestFits(t *testing.T) {
	table := map[kind][]kind{}
	for _, line := range strings.Split(fits, "\n") {
		left, right, _ := strings.Cut(line, ": ")
		for _, s := range strings.Fields(right) {
			table[written(t, left)] = append(table[written(t, left)], written(t, s))
		}
	}
	for _, a := range allKinds() {
		for _, b := range allKinds() {
			want := slices.Contains(table[plainly(a)], plainly(b))
			if got := cap.Fits(a.c, a.mark, b.c, b.mark); got != want {
				t.Errorf("Fits(%v, %v): %v", a, b, got)
			}
		}
	}
	for _, a := range odd {
		for _, b := range odd {
			if want := cap.Is(a) && cap.Is(b) && cap.Fits(a, api.Ephemeral, b, api.Plain); cap.Sub(a, b) != want {
				t.Errorf("Sub(%d, %d): %v", a, b, !want)
			}
			if (!cap.Is(a) || !cap.Is(b)) && cap.Fits(a, 0, b, 0) {
				t.Errorf("%d fits %d", a, b)
			}
		}
	}
	for _, mark := range []int{-1, 3, 1 << 40} {
		if cap.Fits(api.Ref, mark, api.Tag, 0) || cap.Fits(api.Iso, api.Ephemeral, api.Tag, mark) {
			t.Errorf("the mark %d is one", mark)
		}
	}
}

// TestOrder is P7.2.
func TestOrder(t *testing.T) {
	l := allKinds()
	for _, a := range l {
		if !cap.Fits(a.c, a.mark, a.c, a.mark) {
			t.Errorf("%v does not fit itself", a)
		}
		if !cap.Sub(api.Iso, a.c) {
			t.Errorf("iso is no sub of %d", a.c)
		}
		for _, b := range l {
			ab := cap.Fits(a.c, a.mark, b.c, b.mark)
			if ab && (cap.Reads(b.c) && !cap.Reads(a.c) || cap.Writes(b.c) && !cap.Writes(a.c)) {
				t.Errorf("%v permits less than %v", a, b)
			}
			for _, c := range l {
				if ab && cap.Fits(b.c, b.mark, c.c, c.mark) && !cap.Fits(a.c, a.mark, c.c, c.mark) {
					t.Errorf("%v, %v, %v", a, b, c)
				}
			}
		}
	}
}

// TestAlias is P7.1 for further references, and those that are given up.
func TestAlias(t *testing.T) {
	for _, c := range odd {
		for _, mark := range []int{-1, 0, 1, 2, 3} {
			alias, consumed := kind{c, api.Plain}, kind{c, api.Plain}
			if c == api.Iso || c == api.Trn {
				alias.mark = [...]int{api.Aliased, api.Plain, api.Aliased}[(mark+3)%3]
				consumed.mark = [...]int{api.Ephemeral, api.Ephemeral, api.Aliased}[(mark+3)%3]
			}
			if !cap.Is(c) || mark < 0 || mark > 2 {
				alias, consumed = kind{}, kind{}
			}
			if got, m := cap.Alias(c, mark); (kind{got, m}) != alias {
				t.Errorf("Alias(%d, %d): %d, %d", c, mark, got, m)
			}
			if got, m := cap.Consumed(c, mark); (kind{got, m}) != consumed {
				t.Errorf("Consumed(%d, %d): %d, %d", c, mark, got, m)
			}
		}
	}
}

const views = `iso iso tag tag val tag tag
trn iso trn box val box tag
ref iso trn ref val box tag
val val val val val val tag
box tag box box val box tag`

// TestViews is P7.1 and P7.3.
func TestViews(t *testing.T) {
	table := map[[2]int]int{}
	for _, line := range strings.Split(views, "\n") {
		l := strings.Fields(line)
		for i, s := range l[1:] {
			table[[2]int{written(t, l[0]).c, six[i]}] = written(t, s).c
		}
	}
	for _, origin := range odd {
		for _, field := range odd {
			want, exists := table[[2]int{origin, field}]
			if c, ok := cap.View(origin, field); c != want || ok != exists {
				t.Errorf("View(%d, %d): %d, %v", origin, field, c, ok)
			}
			wantKind := kind{want, api.Plain}
			switch {
			case !cap.Writes(origin) || !cap.Is(field):
				exists, wantKind = false, kind{}
			case field == api.Iso:
				wantKind = kind{api.Iso, api.Ephemeral}
			case field == api.Trn:
				wantKind = map[int]kind{api.Ref: {api.Trn, api.Ephemeral}, api.Trn: {api.Box, 0}, api.Iso: {api.Tag, 0}}[origin]
			}
			c, mark, ok := cap.Extract(origin, field)
			if (kind{c, mark}) != wantKind || ok != exists {
				t.Errorf("Extract(%d, %d): %d, %d, %v", origin, field, c, mark, ok)
			}
			if cap.Writes(c) && !cap.Writes(field) || cap.Reads(c) && !cap.Reads(field) {
				t.Errorf("Extract(%d, %d) permits more", origin, field)
			}
			if cap.Writes(want) && (!cap.Writes(field) || !cap.Writes(origin)) || cap.Reads(want) && !cap.Reads(field) {
				t.Errorf("View(%d, %d) permits more", origin, field)
			}
		}
	}
}

// TestStore is P7.1 for writing away and recovering.
func TestStore(t *testing.T) {
	takes := map[int]string{api.Ref: "iso^ iso iso! trn^ trn trn! ref val box tag", api.Trn: "iso^ iso iso! trn^ trn val tag", api.Iso: "iso^ iso iso! val tag"}
	for _, origin := range odd {
		var l []kind
		for _, s := range strings.Fields(takes[origin]) {
			l = append(l, written(t, s))
		}
		for _, k := range allKinds() {
			if got := cap.Store(origin, k.c, k.mark); got != slices.Contains(l, plainly(k)) {
				t.Errorf("Store(%d, %v): %v", origin, k, got)
			}
		}
		if cap.Store(api.Ref, origin, api.Plain) != cap.Is(origin) || cap.Store(origin, api.Val, 3) || cap.Store(origin, api.Val, -1) {
			t.Errorf("Store takes what is none: %d", origin)
		}
		want, is := map[int]int{1: 1, 2: 1, 3: 1, 4: 4, 5: 4, 6: 6}[origin]
		if c, ok := cap.Recover(origin); c != want || ok != is {
			t.Errorf("Recover(%d): %d, %v", origin, c, ok)
		}
	}
}

// TestBeside is P7.1 and P7.4.
func TestBeside(t *testing.T) {
	local := map[int]string{1: "tag", 2: "box tag", 3: "ref box tag", 4: "val box tag", 5: "trn ref val box tag", 6: "iso trn ref val box tag"}
	global := map[int]string{1: "tag", 2: "tag", 3: "tag", 4: "val box tag", 5: "val box tag", 6: "iso trn ref val box tag"}
	for _, a := range odd {
		for _, b := range odd {
			wantLocal := cap.Is(b) && slices.Contains(strings.Fields(local[a]), cap.Name(b))
			wantGlobal := cap.Is(b) && slices.Contains(strings.Fields(global[a]), cap.Name(b))
			if cap.Local(a, b) != wantLocal || cap.Global(a, b) != wantGlobal {
				t.Errorf("beside %d, %d: %v, %v", a, b, cap.Local(a, b), cap.Global(a, b))
			}
			if cap.Local(a, b) != cap.Local(b, a) || cap.Global(a, b) != cap.Global(b, a) || cap.Global(a, b) && !cap.Local(a, b) {
				t.Errorf("beside %d, %d", a, b)
			}
			if cap.Writes(a) && cap.Reads(b) && cap.Global(a, b) {
				t.Errorf("%d writes beside %d", a, b)
			}
		}
	}
	for _, a := range six {
		aliased, mark := cap.Alias(a, api.Plain)
		given, given2 := cap.Consumed(a, api.Plain)
		for _, b := range six {
			if cap.Fits(aliased, mark, b, api.Plain) && !cap.Local(a, b) {
				t.Errorf("a copy of %d as %d", a, b)
			}
			for _, c := range six {
				if cap.Sendable(b) && cap.Fits(given, given2, b, api.Plain) && cap.Local(a, c) && !cap.Global(b, c) {
					t.Errorf("%d given as %d beside %d", a, b, c)
				}
			}
		}
	}
}
