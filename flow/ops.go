package flow

import (
	"hackamore/api"
	"hackamore/exprs"
)

func (w *walker) local(x api.Expr, _ place) { w.needs(ErrUnset, w.locals[x.Text]) }

func (w *walker) consume(x api.Expr, _ place) {
	w.needs(ErrUnset, w.locals[x.Text])
	w.now.value.put(w.locals[x.Text], false)
}

func (w *walker) this(_ api.Expr, p place) {
	if w.constructor && !p.held {
		w.needs(ErrField, w.numbers...)
	}
}

// object looks at the object whose field is meant, and returns the number of the field, if it is one of the receiver's.
func (w *walker) object(x api.Expr, p place) (int, bool) {
	p = p.part()
	p.held = true
	w.kid(x, 0, p)
	n, ok := w.fields[x.Text]
	return n, ok && x.Kids[0].Op == api.OpThis
}

func (w *walker) get(x api.Expr, p place) {
	if n, ok := w.object(x, p); ok && w.constructor && w.now != nil {
		w.needs(ErrUnset, n)
	}
}

func (w *walker) set(x api.Expr, p place) {
	n, ok := w.object(x, p)
	w.kid(x, 1, p.part())
	if !ok || w.now == nil {
		return
	}
	if w.constructor && p.used {
		w.needs(ErrUnset, n)
	}
	isOnce := w.onceFields[x.Text]
	if !w.constructor {
		if isOnce {
			w.fault(ErrSet)
		}
		return
	}
	if isOnce {
		w.assigns(n)
	}
	w.now.set(n)
}

func (w *walker) variable(x api.Expr, p place) {
	n := w.locals[x.Text]
	if len(x.Kids) == 0 {
		w.now.value.put(n, false)
		w.now.assigned.put(n, false)
		return
	}
	w.kid(x, 0, p.part())
	if w.now != nil {
		w.now.set(n)
	}
}

func (w *walker) assign(x api.Expr, p place) {
	w.kid(x, 0, p.part())
	if w.now == nil {
		return
	}
	n := w.locals[x.Text]
	if p.used {
		w.needs(ErrUnset, n)
	}
	if w.once[x.Text] {
		w.assigns(n)
	}
	w.now.set(n)
}

func (w *walker) seq(x api.Expr, p place) {
	for i := range x.Kids {
		if w.now == nil {
			w.path = append(w.path, i)
			w.fault(ErrDead)
			w.path = w.path[:len(w.path)-1]
			return
		}
		kid := p.branch()
		kid.used = p.used && i == len(x.Kids)-1
		w.kid(x, i, kid)
	}
}

func (w *walker) choice(x api.Expr, p place) {
	w.kid(x, 0, p.part())
	other := w.now.clone()
	w.kid(x, 1, p.branch())
	end := w.now
	w.now = other
	w.kid(x, 2, p.branch())
	w.now = join(end, w.now)
}

// while looks at the condition and the body apart, since they are entered from their own end, too: a variable has a value at
// their entry if it has one at first, and none of the ways back takes it.
func (w *walker) while(x api.Expr, p place) {
	inside := p.part()
	inside.looped = true
	body := inside
	body.used = p.used
	var tested, again, back *state
	loop := w.apart(func() {
		w.kid(x, 0, inside)
		tested = w.now.clone()
		retried := w.continues
		w.continues = nil
		w.kid(x, 1, body)
		again = join(w.now, w.continues)
		back = join(again, retried)
		w.now, w.continues = nil, nil
	})
	broken := loop.breaks
	loop.breaks = nil
	s := join(w.now, back.behind(w.now))
	w.enter(loop, s)
	tested = tested.behind(s)
	w.now = tested.clone()
	w.kid(x, 2, p.branch())
	if again != nil {
		w.now = join(w.now, tested)
	}
	w.now = join(w.now, broken.behind(s))
}

func (w *walker) match(x api.Expr, p place) {
	w.kid(x, 0, p.part())
	var end *state
	for i := 1; i < len(x.Kids) && w.now != nil; i++ {
		w.kid(x, i, p.branch())
		end = join(end, w.now)
		w.now = w.passed
	}
	w.now = join(end, w.now)
}

// matchCase looks at a case. Behind it, where it was taken or passed, its variable has no value.
func (w *walker) matchCase(x api.Expr, p place) {
	n := w.locals[x.Text]
	passed := w.now.clone()
	if x.Text != "" {
		w.now.set(n)
	}
	w.kid(x, 0, p.part())
	passed = join(passed, w.now.clone())
	w.kid(x, 1, p.branch())
	if x.Text != "" {
		passed.value.put(n, false)
		passed.assigned.put(n, true)
	}
	if x.Text != "" && w.now != nil {
		w.now.value.put(n, false)
	}
	w.passed = passed
}

func (w *walker) try(x api.Expr, p place) {
	outer := w.exits
	w.exits = exits{}
	inside := p.branch()
	inside.caught = true
	w.kid(x, 0, inside)
	end := w.now
	w.now, w.errors = w.errors, nil
	w.kid(x, 1, p.branch())
	end = join(end, w.now)
	left := w.exits
	w.exits = outer
	behind := func(s *state) *state { return s }
	if !exprs.IsNone(x.Kids[2]) {
		last := p.branch()
		last.used = false
		part := w.apart(func() { w.kid(x, 2, last) })
		behind = func(s *state) *state { return w.enter(part, s) }
	}
	mine := w.exits.all()
	for i, s := range left.all() {
		s := behind(*s)
		*mine[i] = join(*mine[i], s)
	}
	w.now = behind(end)
}

// fails tells that an error leads from here to where it is caught.
func (w *walker) fails(p place) {
	if !p.caught && !w.partial {
		w.fault(ErrPartial)
	}
	w.errors = join(w.errors, w.now.clone())
}

func (w *walker) raise(_ api.Expr, p place) {
	w.fails(p)
	w.now = nil
}

func (w *walker) call(x api.Expr, p place) {
	w.kids(x, p)
	if s, _ := pathText(w.path); w.now != nil && w.raising[s] {
		w.fails(p)
	}
}

func (w *walker) leave(x api.Expr, p place) {
	kid := p.part()
	kid.used = w.function
	for i := range x.Kids {
		w.kid(x, i, kid)
	}
	if w.now == nil {
		return
	}
	if w.constructor {
		w.needs(ErrField, w.numbers...)
	}
	w.returns = join(w.returns, w.now)
	w.now = nil
}

// jump leaves a body of a loop, for its end or its condition.
func (w *walker) jump(x api.Expr, p place) {
	switch {
	case !p.looped:
		w.fault(ErrLoop)
	case x.Op == api.OpBreak:
		w.breaks = join(w.breaks, w.now)
	default:
		w.continues = join(w.continues, w.now)
	}
	w.now = nil
}

func (w *walker) recovered(x api.Expr, p place) { w.kid(x, 0, p.branch()) }
