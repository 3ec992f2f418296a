package world

import (
	"cmp"
	"slices"

	"hackamore/api"
	"hackamore/cap"
	"hackamore/types"
)

// Path says that an object is reached from an actor (Message -1) or from a message of its mail, with a capability.
type Path struct{ Actor, Message, Cell, Cap int }

// compare returns the order of two paths.
func (p Path) compare(q Path) int {
	return cmp.Or(cmp.Compare(p.Actor, q.Actor), cmp.Compare(p.Message, q.Message), cmp.Compare(p.Cell, q.Cell), cmp.Compare(p.Cap, q.Cap))
}

// view is an object that is seen with a capability.
type view struct{ cell, cap int }

// counts returns what counts of the capability of a name.
func counts(t api.Type) int {
	switch {
	case t.Mark == api.Aliased && t.Cap == api.Iso:
		return api.Tag
	case t.Mark == api.Aliased && t.Cap == api.Trn:
		return api.Box
	}
	return t.Cap
}

// seen returns what is seen in a type from a capability, of a value.
func (w *World) seen(x api.Value, t api.Type, origin int) []view {
	switch t.Kind {
	case api.TypeName:
		c, ok := cap.View(origin, counts(t))
		if ok && x.Kind == api.ValObject && w.is(x, t) {
			return []view{{int(x.Lo), c}}
		}
	case api.TypeUnion:
		return least(w.seenInAll(x, t.Args, origin))
	case api.TypeBoth:
		return w.seenInAll(x, t.Args, origin)
	case api.TypeArrow:
		if len(t.Args) > 1 {
			return w.seen(x, t.Args[1], origin)
		}
	case api.TypeTuple:
		if x.Kind != api.ValTuple || len(x.Kids) != len(t.Args) {
			return nil
		}
		var l []view
		for i, k := range x.Kids {
			l = append(l, w.seen(k, t.Args[i], origin)...)
		}
		return l
	}
	return nil
}

// seenInAll returns what is seen in each of some types.
func (w *World) seenInAll(x api.Value, l []api.Type, origin int) []view {
	var out []view
	for _, t := range l {
		out = append(out, w.seen(x, t, origin)...)
	}
	return out
}

// least returns what is seen of a union: each object with those of its capabilities of which none other is less.
func least(l []view) []view {
	met := map[view]bool{}
	for _, v := range l {
		met[v] = true
	}
	return slices.DeleteFunc(l, func(v view) bool {
		for c := api.Iso; c <= api.Tag; c++ {
			if c != v.cap && met[view{v.cell, c}] && cap.Sub(v.cap, c) {
				return true
			}
		}
		return false
	})
}

// finder finds paths: those that were met stand in a queue.
type finder struct {
	*World
	met   map[Path]bool
	queue []Path
}

// reach puts what is seen of a value into the queue, unless it was met.
func (f *finder) reach(from Path, x api.Value, t api.Type, origin int) {
	for _, v := range f.seen(x, t, origin) {
		p := Path{from.Actor, from.Message, v.cell, v.cap}
		if !f.met[p] {
			f.met[p] = true
			f.queue = append(f.queue, p)
		}
	}
}

// begin reaches what an actor and its mail have.
func (f *finder) begin(actor int) {
	a := f.state.Actors[actor]
	x, _ := f.entity(api.Actor, a.Type)
	for i, v := range a.Fields {
		f.reach(Path{Actor: actor, Message: -1}, v, x.Fields[i].Type, api.Ref)
	}
	for i, m := range a.Mail {
		called, ok := f.method(a.Type, m.Name, map[string]bool{})
		if !ok || len(called.Params) != len(m.Args) {
			continue
		}
		for j, v := range m.Args {
			f.reach(Path{Actor: actor, Message: i}, v, called.Params[j].Type, api.Ref)
		}
	}
}

// follow reaches what an object has that is reached. Whoever has an iso or a trn may make a ref of it.
func (f *finder) follow(p Path) {
	origin := p.Cap
	switch p.Cap {
	case api.Tag:
		return
	case api.Iso, api.Trn:
		origin = api.Ref
	}
	c := f.state.Cells[p.Cell]
	if isArray(c.Type) {
		t, ok := elementType(c.Type)
		for _, v := range c.Fields {
			if ok {
				f.reach(p, v, t, origin)
			}
		}
		return
	}
	x, _ := f.entity(api.Class, c.Type)
	for i, v := range c.Fields {
		f.reach(p, v, x.Fields[i].Type, origin)
	}
}

// elementType returns the type of the elements of an Array, if its name tells one.
func elementType(name string) (api.Type, bool) {
	t, e := types.Parse(name + " val")
	if e != api.OK || len(t.Args) == 0 {
		return api.Type{}, false
	}
	return flat(t.Args[0]), true
}

// flat returns a type whose names have no arguments, as those of reified programs.
func flat(t api.Type) api.Type {
	if t.Kind != api.TypeName {
		for i, a := range t.Args {
			t.Args[i] = flat(a)
		}
		return t
	}
	for i, a := range t.Args {
		s, _ := types.Text(a)
		if i == 0 {
			t.Name += "["
		} else {
			t.Name += ", "
		}
		t.Name += s
	}
	if len(t.Args) > 0 {
		t.Name += "]"
	}
	t.Args = nil
	return t
}

// Paths returns all paths to objects, once each.
func (w *World) Paths() []Path {
	if w == nil {
		return nil
	}
	f := &finder{World: w, met: map[Path]bool{}}
	for i := range w.state.Actors {
		f.begin(i)
	}
	for i := 0; i < len(f.queue); i++ {
		f.follow(f.queue[i])
	}
	slices.SortFunc(f.queue, Path.compare)
	return f.queue
}

// Race returns two paths, one of which writes what the other one reads.
func (w *World) Race() (Path, Path, bool) {
	l := w.Paths()
	to := map[int][]Path{} // what reads or writes, by objects
	for _, p := range l {
		if p.Cap != api.Tag {
			to[p.Cell] = append(to[p.Cell], p)
		}
	}
	for _, p := range l {
		if !cap.Writes(p.Cap) {
			continue
		}
		for _, q := range to[p.Cell] {
			if p.Actor != q.Actor || p.Message != q.Message {
				return p, q, true
			}
		}
	}
	return Path{}, Path{}, false
}
