package world

import (
	"strings"

	"hackamore/api"
	"hackamore/num"
	"hackamore/values"
)

// native is a call of a method that the runtime gives.
type native struct {
	*World
	actor int
	this  api.Value
	args  []api.Value
}

// given is a method that the runtime gives: the types of its parameters (no text for any type), and what it does.
type given struct {
	params []string
	run    func(*native) (api.Value, bool, api.Errno)
}

// Call calls a method that is given by the runtime: its result, and whether it raised an error.
func (w *World) Call(actor int, receiver api.Value, name string, args []api.Value) (api.Value, bool, api.Errno) {
	if e := w.room(actor); e != api.OK {
		return api.Value{}, false, e
	}
	all := append([]api.Value{receiver}, args...)
	for _, v := range all {
		if w.isNothing(v) {
			return api.Value{}, false, ErrBroken
		}
	}
	if isNumber(receiver) && name != "string" {
		return num.Call(w.Type(receiver), name, all)
	}
	m, ok := w.methods(receiver)[name]
	if !ok {
		return api.Value{}, false, ErrMethod
	}
	if len(args) != len(m.params) {
		return api.Value{}, false, api.ErrSize
	}
	for i, typ := range m.params {
		if typ != "" && w.Type(args[i]) != typ {
			return api.Value{}, false, api.ErrType
		}
	}
	return m.run(&native{w, actor, receiver, args})
}

// isNumber reports whether a right value is a number or a Bool.
func isNumber(v api.Value) bool { return num.Check(v) == api.OK }

// methods returns the methods that the runtime gives to a value, but for those of numbers.
func (w *World) methods(v api.Value) map[string]given {
	switch typ := w.Type(v); {
	case isNumber(v):
		return map[string]given{"string": {nil, (*native).numberText}}
	case v.Kind == api.ValUnit && typ == "None":
		return map[string]given{"string": {nil, (*native).noneText}}
	case v.Kind == api.ValObject && typ == textType:
		return textMethods()
	case v.Kind == api.ValObject && isArray(typ):
		return arrayMethods()
	case v.Kind == api.ValActor && v.Lo == 0:
		return map[string]given{"print": {[]string{textType}, (*native).print}}
	}
	return nil
}

func textMethods() map[string]given {
	one := []string{textType}
	return map[string]given{
		"size":      {nil, (*native).textSize},
		"apply":     {[]string{"USize"}, (*native).textByte},
		"add":       {one, (*native).textSum},
		"eq":        {one, compared(func(order int) bool { return order == 0 })},
		"ne":        {one, compared(func(order int) bool { return order != 0 })},
		"lt":        {one, compared(func(order int) bool { return order < 0 })},
		"le":        {one, compared(func(order int) bool { return order <= 0 })},
		"gt":        {one, compared(func(order int) bool { return order > 0 })},
		"ge":        {one, compared(func(order int) bool { return order >= 0 })},
		"substring": {[]string{"USize", "USize"}, (*native).textPart},
		"string":    {nil, (*native).itself},
	}
}

func arrayMethods() map[string]given {
	return map[string]given{
		"size":   {nil, (*native).arraySize},
		"apply":  {[]string{"USize"}, (*native).element},
		"update": {[]string{"USize", ""}, (*native).update},
		"push":   {[]string{""}, (*native).push},
		"pop":    {nil, (*native).pop},
	}
}

// made returns a new String, or the error of making it.
func (c *native) made(s string) (api.Value, bool, api.Errno) {
	v, e := c.Text(c.actor, s)
	return v, false, e
}

// number returns a number of a type.
func number(typ string, n uint64) (api.Value, bool, api.Errno) {
	v, e := num.Of(typ, n)
	return v, false, e
}

// raised is what a method returns that raises an error.
func raised() (api.Value, bool, api.Errno) { return api.Value{}, true, api.OK }

func (c *native) numberText() (api.Value, bool, api.Errno) {
	s, _ := num.Text(c.this)
	return c.made(s)
}

func (c *native) noneText() (api.Value, bool, api.Errno) { return c.made("None") }

func (c *native) itself() (api.Value, bool, api.Errno) { return c.this, false, api.OK }

// bytes returns the bytes of a String.
func (c *native) bytes(v api.Value) string { return c.state.Cells[v.Lo].Bytes }

func (c *native) textSize() (api.Value, bool, api.Errno) {
	return number("USize", uint64(len(c.bytes(c.this))))
}

func (c *native) textByte() (api.Value, bool, api.Errno) {
	s, i := c.bytes(c.this), c.args[0].Lo
	if i >= uint64(len(s)) {
		return raised()
	}
	return number("U8", uint64(s[i]))
}

func (c *native) textSum() (api.Value, bool, api.Errno) {
	return c.made(c.bytes(c.this) + c.bytes(c.args[0]))
}

func (c *native) textPart() (api.Value, bool, api.Errno) {
	s := c.bytes(c.this)
	to := min(c.args[1].Lo, uint64(len(s)))
	from := min(c.args[0].Lo, to)
	return c.made(s[from:to])
}

// compared returns the method that tells whether the order of two Strings is as is wanted.
func compared(is func(order int) bool) func(*native) (api.Value, bool, api.Errno) {
	return func(c *native) (api.Value, bool, api.Errno) {
		v := api.Value{Kind: api.ValBool}
		if is(strings.Compare(c.bytes(c.this), c.bytes(c.args[0]))) {
			v.Lo = 1
		}
		return v, false, api.OK
	}
}

// elements returns where the elements of the receiver, an Array, stand.
func (c *native) elements() *[]api.Value { return &c.state.Cells[c.this.Lo].Fields }

func (c *native) arraySize() (api.Value, bool, api.Errno) {
	return number("USize", uint64(len(*c.elements())))
}

// place returns where the element with the first argument as its index stands, or nil.
func (c *native) place() *api.Value {
	l, i := *c.elements(), c.args[0].Lo
	if i >= uint64(len(l)) {
		return nil
	}
	return &l[i]
}

func (c *native) element() (api.Value, bool, api.Errno) {
	v := c.place()
	if v == nil {
		return raised()
	}
	return values.Clone(*v), false, api.OK
}

func (c *native) update() (api.Value, bool, api.Errno) {
	v := c.place()
	if v == nil {
		return raised()
	}
	old := *v
	*v = values.Clone(c.args[1])
	return old, false, api.OK
}

func (c *native) push() (api.Value, bool, api.Errno) {
	l := c.elements()
	if len(*l) >= maxElements {
		return api.Value{}, false, api.ErrFull
	}
	*l = append(*l, values.Clone(c.args[0]))
	return unit("None"), false, api.OK
}

func (c *native) pop() (api.Value, bool, api.Errno) {
	l := c.elements()
	n := len(*l) - 1
	if n < 0 {
		return raised()
	}
	v := (*l)[n]
	*l = (*l)[:n]
	return v, false, api.OK
}

func (c *native) print() (api.Value, bool, api.Errno) {
	if len(c.state.Output) >= api.MaxFuel {
		return api.Value{}, false, api.ErrFull
	}
	c.state.Output = append(c.state.Output, c.bytes(c.args[0]))
	return unit("None"), false, api.OK
}
