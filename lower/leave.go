package lower

import (
	"hackamore/api"
	"hackamore/num"
	"hackamore/ssa"
)

// Ways out of an expression.
const (
	normally = iota
	byError
	byReturn
	byBreak
	byContinue
)

// surrounding is something around an expression that does something on ways out of it: leave does it, and reports whether it was
// the end of this way. Errors of calls go to the label catch, if there is one; where all ways have something to do, to the label fails.
type surrounding struct {
	leave        func(way int) bool
	all          bool
	catch, fails *label
}

// within lowers something within a surrounding.
func (b *builder) within(s *surrounding, inner func() int) int {
	b.around = append(b.around, s)
	v := inner()
	b.around = b.around[:len(b.around)-1]
	return v
}

// leave leaves by a way, through all that stands around.
func (b *builder) leave(way int) {
	for i := len(b.around) - 1; i >= 0; i-- {
		if b.around[i].leave(way) {
			return
		}
	}
	if way == byReturn {
		b.end(ssa.End{Kind: ssa.Return, Args: []int{b.load(b.back)}})
	}
	b.end(ssa.End{Kind: ssa.Error})
}

// giveBack returns a value.
func (b *builder) giveBack(v int) {
	if b.isNone() {
		v = none
	}
	for _, s := range b.around {
		if s.all {
			b.store(b.back, v)
			b.leave(byReturn)
			return
		}
	}
	b.end(ssa.End{Kind: ssa.Return, Args: []int{b.need(v)}})
}

// failing returns the label of the place to which an error of a call goes, or nil, if no more is done with it. A place that is not
// there yet is made behind what ends with this error.
func (b *builder) failing() (to *label, isNew bool) {
	place := &b.fails
	for i := len(b.around) - 1; ; i-- {
		if i < 0 {
			if !b.made.Partial {
				return nil, false
			}
			break
		}
		if s := b.around[i]; s.catch != nil {
			return s.catch, false
		} else if s.all {
			place = &s.fails
			break
		}
	}
	if *place != nil {
		return *place, false
	}
	*place = &label{}
	return *place, true
}

// perform puts a call behind the other instructions, and returns its value.
func (b *builder) perform(i ssa.Ins, raises bool) int {
	if !raises || !b.live {
		return b.add(i)
	}
	to, isNew := b.failing()
	if to == nil {
		return b.add(i)
	}
	i.Result = b.value(i.Type)
	b.grow()
	next := &label{}
	b.end(ssa.End{Kind: ssa.Try, Call: i}, next, to)
	if isNew {
		b.bind(to)
		b.leave(byError)
	}
	b.bind(next)
	return i.Result
}

// try lowers an OpTry: what it does behind all else stands there once, and goes on by the way that led there. What is returned is
// kept meanwhile, since something else may be returned, and caught, within.
func (b *builder) try(x api.Expr, want bool) int {
	result := b.temp()
	if x.Kids[2].Op == 0 {
		b.caught(x, result, want)
		return b.resultOf(result, want)
	}
	way, kept, then, ways := b.temp(), b.temp(), &label{}, []int{}
	leave := func(by int) bool {
		if b.live {
			ways = with(ways, by)
			if by == byReturn {
				b.store(kept, b.load(b.back))
			}
			b.store(way, b.number(by))
			b.jump(then)
		}
		return true
	}
	b.within(&surrounding{leave: leave, all: true}, func() int {
		b.caught(x, result, want)
		leave(normally)
		return none
	})
	b.bind(then)
	b.eval(x.Kids[2], false)
	on := &label{}
	b.goOn(way, ways, func(by int) {
		switch by {
		case normally:
			b.jump(on)
			return
		case byReturn:
			b.store(b.back, b.load(kept))
		}
		b.leave(by)
	})
	b.bind(on)
	return b.resultOf(result, want)
}

// with returns a list with a number in it, once.
func with(l []int, n int) []int {
	for _, k := range l {
		if k == n {
			return l
		}
	}
	return append(l, n)
}

// number makes a small number.
func (b *builder) number(n int) int {
	v, _ := num.Of("U8", uint64(n))
	return b.constant(v, named("U8", api.Val))
}

// goOn goes on by the way that a variable tells, which is one of some.
func (b *builder) goOn(way string, ways []int, leave func(by int)) {
	for k, by := range ways {
		next := &label{}
		if k < len(ways)-1 {
			this := &label{}
			is := b.add(ssa.Ins{Op: ssa.Is, Args: []int{b.load(way), b.number(by)}, Type: named("Bool", api.Val)})
			b.branch(is, this, next)
			b.bind(this)
		}
		leave(by)
		b.bind(next)
	}
}

// resultOf returns the value of a variable with a result, if anybody wants it.
func (b *builder) resultOf(result string, want bool) int {
	if !want {
		return none
	}
	return b.load(result)
}

// give stores a result in a variable, if anybody wants it.
func (b *builder) give(result string, v int, want bool) {
	if want {
		b.store(result, v)
	}
}

// caught lowers the first two Kids of an OpTry.
func (b *builder) caught(x api.Expr, result string, want bool) {
	catch, out := &label{}, &label{}
	leave := func(way int) bool {
		if way == byError {
			b.jump(catch)
		}
		return way == byError
	}
	v := b.within(&surrounding{leave: leave, catch: catch}, func() int { return b.eval(x.Kids[0], want) })
	b.give(result, v, want)
	b.jump(out)
	b.bind(catch)
	b.give(result, b.evalOr(x.Kids[1], want), want)
	b.bind(out)
}

// while lowers an OpWhile.
func (b *builder) while(x api.Expr, want bool) int {
	result, ran := b.temp(), b.temp()
	other := x.Kids[2].Op != 0
	head, body, no, out := &label{}, &label{}, &label{}, &label{}
	again := func() {
		if other {
			b.store(ran, b.truth(true))
		}
		b.jump(head)
	}
	inBody := false
	leave := func(way int) bool {
		switch way {
		case byBreak:
			b.give(result, none, want)
			b.jump(out)
		case byContinue:
			if inBody {
				b.give(result, none, want)
				again()
			}
			b.jump(head)
		default:
			return false
		}
		return true
	}
	b.give(result, none, want)
	if other {
		b.store(ran, b.truth(false))
	}
	b.bind(head)
	b.within(&surrounding{leave: leave}, func() int {
		b.branch(b.eval(x.Kids[0], true), body, no)
		b.bind(body)
		inBody = true
		b.give(result, b.eval(x.Kids[1], want), want)
		again()
		return none
	})
	b.bind(no)
	if other {
		first := &label{}
		b.branch(b.load(ran), out, first)
		b.bind(first)
		b.give(result, b.eval(x.Kids[2], want), want)
	}
	b.bind(out)
	return b.resultOf(result, want)
}
