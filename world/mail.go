package world

import (
	"slices"

	"hackamore/api"
	"hackamore/values"
)

// Ready returns the actors that have mail, ascending.
func (w *World) Ready() []int {
	if w == nil {
		return nil
	}
	var l []int
	for i, a := range w.state.Actors {
		if len(a.Mail) > 0 {
			l = append(l, i)
		}
	}
	return l
}

// Choose returns the actor that a number of a script chooses.
func (w *World) Choose(choice int) (int, bool) {
	l := w.Ready()
	if len(l) == 0 {
		return 0, false
	}
	n := choice % len(l)
	if n < 0 {
		n += len(l)
	}
	return l[n], true
}

// Take takes the oldest message of an actor.
func (w *World) Take(actor int) (api.Message, api.Errno) {
	if w == nil {
		return api.Message{}, api.ErrArg
	}
	if !w.hasActor(actor) || len(w.state.Actors[actor].Mail) == 0 {
		return api.Message{}, api.ErrNone
	}
	a := &w.state.Actors[actor]
	m := a.Mail[0]
	a.Mail = a.Mail[1:]
	w.mail--
	return m, api.OK
}

// Send puts a message into the mail of its receiver.
func (w *World) Send(m api.Message) api.Errno {
	if w == nil {
		return api.ErrArg
	}
	if !w.hasActor(m.To) || m.From != -1 && !w.hadActor(m.From) {
		return api.ErrNone
	}
	if len(m.Name) > api.MaxName {
		return api.ErrSize
	}
	if slices.ContainsFunc(m.Args, w.isNothing) {
		return ErrBroken
	}
	sent := api.Send{From: m.From, To: m.To, Name: m.Name}
	for _, v := range m.Args {
		s, e := w.Show(v)
		if e != api.OK {
			return e
		}
		sent.Args = append(sent.Args, s)
	}
	if w.mail >= api.MaxMail || len(w.state.Trace) >= api.MaxFuel {
		return api.ErrFull
	}
	m.Args = values.CloneAll(m.Args)
	w.deliver(m)
	w.state.Trace = append(w.state.Trace, sent)
	return api.OK
}

// Spawn makes an actor. One of an entity without a name would be as if it were taken away.
func (w *World) Spawn(typ string) (api.Value, api.Errno) {
	if w == nil {
		return api.Value{}, api.ErrArg
	}
	if _, ok := w.entity(api.Actor, typ); !ok || typ == "" {
		return api.Value{}, ErrMethod
	}
	if len(w.state.Actors) >= api.MaxActors {
		return api.Value{}, api.ErrFull
	}
	return w.addActor(typ), api.OK
}
