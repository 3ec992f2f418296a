package derive_test

import (
	"reflect"
	"slices"
	"strings"
	"testing"

	"hackamore/api"
	"hackamore/check"
	"hackamore/derive"
	"hackamore/notation"
	"hackamore/types"
)

// TestText is P14.1 and P14.4 for texts of certificates.
func TestText(t *testing.T) {
	c := check.Certificate{Bodies: []check.Body{
		{Entity: 5, Method: 12, Types: kinds("main.Cell box; 0; (U32 val | $A!)")}, {}, {Entity: 1 << 62, Method: 0, Types: []api.Type{{Kind: api.TypeName, Name: "a\nb", Cap: api.Ref}, {Kind: api.TypeName, Name: "body", Cap: api.Ref}, {Kind: api.TypeName, Name: "-", Cap: api.Ref}}},
	}}
	want := "body 5 12\nmain.Cell box\n-\n(U32 val | $A!)\nbody 0 0\nbody 4611686018427387904 0\n\"a\\nb\" ref\nbody ref\n\"-\" ref\n"
	s, e := derive.Text(c)
	if s != want || e != api.OK {
		t.Errorf("%q, error %d", s, e)
	}
	d, e := derive.Parse(want)
	if e != api.OK || !reflect.DeepEqual(c, d) {
		t.Errorf("%v, error %d", d, e)
	}
	if s, e := derive.Text(check.Certificate{}); s != "" || e != api.OK {
		t.Errorf("no bodies: %q, error %d", s, e)
	}
	if d, e := derive.Parse(""); len(d.Bodies) > 0 || e != api.OK {
		t.Errorf("no text: %v, error %d", d, e)
	}
}

// many returns types whose texts have 7 bytes.
func many(n int) []api.Type {
	l := make([]api.Type, n)
	for i := range l {
		l[i] = notation.Type("U32 val")
	}
	return l
}

// TestTextErrors is P14.1 for certificates without a text, in the order of the errors.
func TestTextErrors(t *testing.T) {
	deep := notation.Type("U32 val")
	for range 20 {
		deep = api.Type{Kind: api.TypeTuple, Args: []api.Type{deep, deep}}
	}
	long := api.Type{Kind: api.TypeTuple} // the text of each Arg has 300 bytes and 4, and `, ` or a bracket beside it
	for range 64 {
		long.Args = append(long.Args, api.Type{Kind: api.TypeName, Name: strings.Repeat("x", 300), Cap: api.Val})
	}
	over := long
	over.Args = append([]api.Type{{Kind: api.TypeTuple, Args: long.Args[:2]}}, long.Args[1:]...)
	over.Args = append([]api.Type{{Kind: api.TypeTuple, Args: long.Args[:3]}}, over.Args[1:]...)
	body := func(l ...api.Type) check.Body { return check.Body{Types: l} }
	for i, x := range []struct {
		l    []check.Body
		want api.Errno
	}{
		{[]check.Body{body(api.Type{Kind: 9}), {Entity: -1}}, api.ErrRange}, {[]check.Body{body(deep), {Method: -1}}, api.ErrRange}, {[]check.Body{body(over), body(deep), body(api.Type{Kind: 9})}, api.ErrSize}, {[]check.Body{body(over), body(api.Type{Kind: 9}), body(deep)}, api.ErrForm},
		{[]check.Body{body(api.Type{Cap: api.Ref})}, api.ErrForm}, {[]check.Body{body(api.Type{Args: make([]api.Type, 400)})}, api.ErrForm}, {[]check.Body{body(over)}, api.ErrSize}, {[]check.Body{body(long)}, api.OK},
		{[]check.Body{body(many(124998)...)}, api.OK}, {[]check.Body{body(many(124999)...)}, api.ErrSize}, {[]check.Body{{Method: 10, Types: make([]api.Type, 499995)}}, api.OK}, {[]check.Body{{Method: 10, Types: make([]api.Type, 499996)}}, api.ErrSize},
		{make([]check.Body, 111111), api.OK}, {make([]check.Body, 111112), api.ErrSize},
	} {
		c := check.Certificate{Bodies: x.l}
		s, e := derive.Text(c)
		if e != x.want || e != api.OK && s != "" || len(s) > derive.MaxText {
			t.Errorf("certificate %d: %d bytes, error %d, want %d", i, len(s), e, x.want)
		}
		if e == api.OK {
			if d, e := derive.Parse(s); e != api.OK || !slices.EqualFunc(c.Bodies, d.Bodies, isBody) {
				t.Errorf("certificate %d: Parse: error %d", i, e)
			}
		}
	}
	if n, _ := derive.Text(check.Certificate{Bodies: []check.Body{body(long)}}); len(n) != len("body 0 0\n")+64*306+1 {
		t.Errorf("a long type has %d bytes", len(n))
	}
}

// isBody reports whether two bodies are equal.
func isBody(a, b check.Body) bool {
	return a.Entity == b.Entity && a.Method == b.Method && slices.EqualFunc(a.Types, b.Types, types.Equal)
}

// TestLongTypes is P14.1 for types whose texts have as many bytes as there may be, and one more.
func TestLongTypes(t *testing.T) {
	for i, want := range []api.Errno{api.OK, api.ErrSize} {
		long := api.Type{Kind: api.TypeTuple}
		for range 64 {
			long.Args = append(long.Args, api.Type{Kind: api.TypeName, Name: strings.Repeat("x", 300), Cap: api.Val})
		}
		// 64 names, commas and brackets are 19584 bytes; a name of another one, with brackets, makes 20000.
		long.Args[0].Args = []api.Type{{Kind: api.TypeName, Name: strings.Repeat("y", 300), Cap: api.Val}, {Kind: api.TypeName, Name: strings.Repeat("y", 104+i), Cap: api.Val}}
		s, e := derive.Text(check.Certificate{Bodies: []check.Body{{Types: []api.Type{long}}}})
		if e != want || e == api.OK && len(s) != len("body 0 0\n")+20001 {
			t.Errorf("error %d, %d bytes", e, len(s))
		}
	}
}

// TestParse is P14.1 for texts that are none.
func TestParse(t *testing.T) {
	for _, s := range []string{
		"\n", "body 0 0", "body 0 0\nU32 val", "U32 val\n", "-\nbody 0 0\n", "body 0 0\n\n", "body 0 0\n\nU32 val\n", "body 00 0\n", "body 0 +1\n", "body 0 -1\n", "body -0 0\n", "body  0 0\n", "body 0 0 \n", " body 0 0\n", "body 0\n", "body 0 0 0\n", "body a 0\n", "body 0 9223372036854775808\n",
		"body 0 0\n--\n", "body 0 0\n- \n", "body 0 0\nU32\n", "body 0 0\nU32 val \n", "body 0 0\nU32  val\n", "body 0 0\nU32 val\r\n", "body 0 0\n(U32 val)\n", "body 0 0\n0\n", "Body 0 0\n", "body 0 0\nU32 val\nU32 val",
	} {
		if c, e := derive.Parse(s); e != api.ErrForm || len(c.Bodies) > 0 {
			t.Errorf("%q: %v, error %d", s, c, e)
		}
	}
	long := strings.Repeat("-\n", derive.MaxText/2)
	if _, e := derive.Parse(long); e != api.ErrForm {
		t.Errorf("a text of the greatest length: error %d", e)
	}
	if _, e := derive.Parse(long + "-"); e != api.ErrSize {
		t.Errorf("a text that is too long: error %d", e)
	}
}
