package syntax

// shape is what a node of a kind has: a Text of a group, first some Kids of groups, and then any number of others, those of
// the first group ahead of those of the second one, but at least some.
type shape struct {
	name  string
	text  string
	first []string
	rest  [2]string
	least int
}

// The groups of some Words: W: stands ahead of them, with blanks around each, of which - is the empty one.
const (
	capWords      = "W: - iso trn ref val box tag "
	genericWords  = "W: - iso trn ref val box tag #read #send #share #alias #any "
	markWords     = "W: - ^ ! "
	partialWords  = "W: - ? "
	variableWords = "W: var let "
)

// shapes returns the table of the kinds. A group that ends in `?` may be a Nothing, too.
func shapes() [Last + 1]shape {
	table := declarationShapes()
	for kind, s := range exprShapes() {
		if s.name != "" {
			table[kind] = s
		}
	}
	return table
}

// declarationShapes returns the shapes of declarations, of their parts, and of types.
func declarationShapes() [Last + 1]shape {
	return [Last + 1]shape{
		Module:     {name: "Module", rest: [2]string{"use", "entity"}},
		Use:        {name: "Use", text: "package", first: []string{"e?"}},
		Entity:     {name: "Entity", text: "name", first: []string{"W: class actor primitive trait interface type ", capWords, "bounds", "t?"}, rest: [2]string{"member"}},
		Word:       {name: "Word", text: "any"},
		Nothing:    {name: "Nothing"},
		Bounds:     {name: "Bounds", rest: [2]string{"bound"}},
		Bound:      {name: "Bound", text: "name", first: []string{"t?"}},
		Field:      {name: "Field", text: "name", first: []string{variableWords, "t", "e?"}},
		Method:     {name: "Method", text: "name", first: []string{"W: new fun be ", capWords, "bounds", "params", "t?", partialWords, "e?"}},
		Params:     {name: "Params", rest: [2]string{"param"}},
		Param:      {name: "Param", text: "name", first: []string{"t", "e?"}},
		NamedType:  {name: "NamedType", text: "pointed", first: []string{genericWords, markWords}, rest: [2]string{"t"}},
		UnionType:  {name: "UnionType", rest: [2]string{"t"}, least: 2},
		BothType:   {name: "BothType", rest: [2]string{"t"}, least: 2},
		TupleType:  {name: "TupleType", rest: [2]string{"t"}, least: 2},
		ArrowType:  {name: "ArrowType", first: []string{"t", "t"}},
		ThisType:   {name: "ThisType"},
		LambdaType: {name: "LambdaType", first: []string{capWords, markWords, partialWords, "t?"}, rest: [2]string{"t"}},
		Case:       {name: "Case", first: []string{"e", "e?", "e"}},
		Named:      {name: "Named", text: "name", first: []string{"e"}},
		Capture:    {name: "Capture", text: "name", first: []string{"t", "e"}},
	}
}

// exprShapes returns the shapes of expressions.
func exprShapes() [Last + 1]shape {
	return [Last + 1]shape{
		IntLit:    {name: "IntLit", text: "int"},
		FloatLit:  {name: "FloatLit", text: "float"},
		StringLit: {name: "StringLit", text: "any"},
		BoolLit:   {name: "BoolLit", text: "bool"},
		Name:      {name: "Name", text: "name"},
		This:      {name: "This"},
		Seq:       {name: "Seq", rest: [2]string{"e"}, least: 2},
		Decl:      {name: "Decl", text: "name", first: []string{variableWords, "t"}},
		Assign:    {name: "Assign", first: []string{"e", "e"}},
		Dot:       {name: "Dot", text: "name", first: []string{"e"}},
		Tilde:     {name: "Tilde", text: "name", first: []string{"e"}},
		Chain:     {name: "Chain", text: "name", first: []string{"e"}},
		Call:      {name: "Call", first: []string{"e", partialWords}, rest: [2]string{"e", "named"}},
		Qualify:   {name: "Qualify", first: []string{"e"}, rest: [2]string{"t"}, least: 1},
		Tuple:     {name: "Tuple", rest: [2]string{"e"}, least: 2},
		Array:     {name: "Array", first: []string{"t"}, rest: [2]string{"e"}},
		Unary:     {name: "Unary", text: "unary", first: []string{"e"}},
		Binary:    {name: "Binary", text: "operator", first: []string{"e", "e"}},
		As:        {name: "As", first: []string{"e", "t"}},
		Consume:   {name: "Consume", first: []string{"e"}},
		Recover:   {name: "Recover", first: []string{capWords, "e"}},
		If:        {name: "If", first: []string{"e", "e", "e?"}},
		Ifdef:     {name: "Ifdef", first: []string{"e", "e", "e?"}},
		While:     {name: "While", first: []string{"e", "e", "e?"}},
		Repeat:    {name: "Repeat", first: []string{"e", "e"}},
		For:       {name: "For", text: "name", first: []string{"t", "e", "e", "e?"}},
		With:      {name: "With", text: "name", first: []string{"t", "e", "e"}},
		Match:     {name: "Match", first: []string{"e", "e?"}, rest: [2]string{"case"}, least: 1},
		Try:       {name: "Try", first: []string{"e", "e?", "e?"}},
		Error:     {name: "Error"},
		Return:    {name: "Return", first: []string{"e?"}},
		Break:     {name: "Break"},
		Continue:  {name: "Continue"},
		Object:    {name: "Object", first: []string{capWords, "t?"}, rest: [2]string{"member"}},
		Lambda:    {name: "Lambda", first: []string{capWords, "params", "t?", partialWords, "e"}, rest: [2]string{"capture"}},
	}
}
