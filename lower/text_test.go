package lower_test

import (
	"testing"

	"hackamore/api"
	"hackamore/draw"
	"hackamore/generic"
	"hackamore/lower"
	"hackamore/meaning"
	"hackamore/names"
	"hackamore/optimize"
	"hackamore/sample"
)

// reified returns the program that the main actor of a text needs.
func reified(t *testing.T, text string) []api.Entity {
	t.Helper()
	p, e := names.Program(map[string]string{"main": text}, nil)
	if e != api.OK {
		t.Fatalf("names: error %d", e)
	}
	p, e = generic.Reify(p, "main.Main")
	if e != api.OK {
		t.Fatalf("generic: error %d", e)
	}
	return p
}

// TestTexts is P20.2 for programs of texts, by many scripts.
func TestTexts(t *testing.T) {
	hi := "actor Main\n  new create(env: Env) => env.out.print(\"hi\")"
	counts := "actor Main\n  new create(env: Env) =>\n    var n: U32 = 0\n    while n < 3 do\n      env.out.print(n.string())\n      n = n + 1\n    else env.out.print(\"never\") end\n"
	for _, text := range []string{sample.Ring, sample.Written, hi, counts} {
		p := reified(t, text)
		for seed := range uint64(12) {
			m := draw.New(seed)
			var script []int
			for range 40 {
				script = append(script, m.Below(100))
			}
			for level := range 4 {
				if !alike(t, p, []string{"x", "y"}[:m.Below(3)], script, text[:20], optimize.Usual(level)...) {
					t.Errorf("a run of %s does not rest", text[:20])
				}
			}
		}
	}
}

// TestFuel is P20.3: a run that does not end by fuel ends alike with more, and with less it ends by fuel, or alike.
func TestFuel(t *testing.T) {
	p := reified(t, sample.Written)
	f, e := lower.Lower(p)
	if e != api.OK {
		t.Fatalf("error %d", e)
	}
	want, _ := lower.Run(f, p, nil, nil, api.MaxFuel)
	rests := 0
	for fuel := 0; fuel < 3000; fuel += 37 {
		s, end := lower.Run(f, p, nil, nil, fuel)
		if end.Kind == meaning.Rest {
			rests++
			if told(s) != told(want) {
				t.Fatalf("with the fuel %d it is another run", fuel)
			}
		} else if end.Kind != meaning.Fuel || end.Code != api.ErrSteps || rests > 0 {
			t.Fatalf("with the fuel %d it ends by %v", fuel, end)
		}
	}
	if rests == 0 {
		t.Errorf("no run rests")
	}
}
