package meaning_test

import (
	"strings"
	"testing"

	"hackamore/api"
	"hackamore/check"
	"hackamore/draw"
	"hackamore/generic"
	"hackamore/meaning"
	"hackamore/names"
	"hackamore/sample"
	"hackamore/world"
)

// reified returns the program that the main actor of a text needs, which the checker takes.
func reified(t *testing.T, text string) []api.Entity {
	t.Helper()
	p, e := names.Program(map[string]string{"main": text}, nil)
	if e != api.OK {
		t.Fatalf("names: error %d", e)
	}
	p, e = generic.Reify(p, "main.Main")
	if e != api.OK {
		t.Fatalf("generic: error %d", e)
	}
	if _, f, e := check.Check(p); e != api.OK {
		t.Fatalf("check: error %d at %v of %s", e, f, p[f.Entity].Name)
	}
	return p
}

// TestWritten is P18.1 for what a program of texts prints.
func TestWritten(t *testing.T) {
	s, end := meaning.Run(reified(t, sample.Written), nil, nil, 10000)
	want := "shape 9|circle 12|3628800|odd|2|1x7|5|50|nine9"
	if got := strings.Join(s.Output, "|"); got != want || end != (meaning.End{Kind: meaning.Rest, Actor: -1}) {
		t.Errorf("it ends by %v, and prints %s", end, got)
	}
}

// TestHi is the document's example of a program that prints hi, with one send.
func TestHi(t *testing.T) {
	s, end := meaning.Run(reified(t, "actor Main\n  new create(env: Env) => env.out.print(\"hi\")"), nil, nil, 100)
	if end != (meaning.End{Kind: meaning.Rest, Actor: -1}) || told(s.Output) != told([]string{"hi"}) || told(s.Trace) != told([]api.Send{{From: 1, To: 0, Name: "print", Args: []string{`"hi"#0`}}}) {
		t.Errorf("it ends by %v, prints %q and sends %v", end, s.Output, s.Trace)
	}
}

// TestRing is P18.6 for a program whose actors hand on an iso, by many scripts: there is no race after any step, and the sums are right.
func TestRing(t *testing.T) {
	p := reified(t, sample.Ring)
	for seed := range uint64(60) {
		m := draw.New(seed)
		w, e := world.New(p, []string{"x", "y"}[:m.Below(3)])
		if e != api.OK {
			t.Fatalf("New: error %d", e)
		}
		paths := 0
		for {
			_, end, ok := meaning.Step(w, m.Below(100), 10000)
			if !ok {
				break
			}
			if end.Kind != meaning.Rest {
				t.Fatalf("seed %d: a step ends by %v", seed, end)
			}
			if a, b, race := w.Race(); race {
				t.Fatalf("seed %d: %v and %v in %s", seed, a, b, w.Dump())
			}
			paths += len(w.Paths())
		}
		out := strings.Join(w.State().Output, ",")
		if strings.Count(out, "sum 15 17") != 2 || strings.Count(out, "few")+strings.Count(out, "many") != 1 || paths < 20 {
			t.Errorf("seed %d: it prints %s, with %d paths", seed, out, paths)
		}
	}
}

// TestRaces holds that races are found where a program that the checker would not take makes one.
func TestRaces(t *testing.T) {
	p := program(`
	actor tag main.R
	var c: main.C ref
	new tag create(c: main.C ref) => (set.c this local.c)
	actor tag main.V
	var c: main.C box
	new tag create(c: main.C box) => (set.c this local.c)
`)
	for i := range p {
		if p[i].Name == "main.Main" {
			p[i].Methods[0].Body = api.Expr{}
		}
	}
	w, _ := world.New(p, nil)
	c, _ := w.Make(1, "main.C")
	for _, name := range []string{"main.V", "main.R"} {
		a, _ := w.Spawn(name)
		w.Send(api.Message{From: 1, To: int(a.Lo), Name: "create", Args: []api.Value{c}})
	}
	w.Take(1)
	for range 2 {
		meaning.Step(w, 0, 100)
		if _, _, ok := w.Race(); !ok {
			t.Errorf("there is no race in %s", w.Dump())
		}
	}
}
