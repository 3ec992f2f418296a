package colour

import "math/bits"

// words is how many words a set has: enough for selectors, bodies and classes.
const words = 8

// set is a set of small numbers.
type set [words]uint64

func (s *set) has(i int) bool { return s[i/64]>>(i%64)&1 == 1 }

func (s *set) put(i int) { s[i/64] |= 1 << (i % 64) }

func (s *set) drop(i int) { s[i/64] &^= 1 << (i % 64) }

// list returns the numbers of a set, ascending.
func (s set) list() []int {
	var l []int
	for k, w := range s {
		for ; w != 0; w &= w - 1 {
			l = append(l, k*64+bits.TrailingZeros64(w))
		}
	}
	return l
}

// top returns the number above the greatest one, 0 for none.
func (s set) top() int {
	for k := words - 1; k >= 0; k-- {
		if s[k] != 0 {
			return k*64 + bits.Len64(s[k])
		}
	}
	return 0
}

// selectors returns the selectors that classes understand.
func selectors(w World) set {
	var s set
	for _, c := range w.Classes {
		for _, x := range c {
			s.put(x.Selector)
		}
	}
	return s
}

// conflicts returns, for each selector, those that conflict with it. All of them stand in one list of words, of which each set is a
// part.
func conflicts(w World) []set {
	all := make([]uint64, mostSelectors*words)
	for _, c := range w.Classes {
		var own set
		for _, x := range c {
			own.put(x.Selector)
		}
		for _, x := range c {
			for k, word := range own {
				all[x.Selector*words+k] |= word
			}
		}
	}
	l := make([]set, mostSelectors)
	for s := range l {
		l[s] = set(all[s*words : (s+1)*words])
		l[s].drop(s)
	}
	return l
}

// free returns the least colour that none of some selectors has.
func free(others set, colours []int) int {
	var used set
	for _, s := range others.list() {
		if s < len(colours) && colours[s] >= 0 {
			used.put(colours[s])
		}
	}
	for k, w := range used {
		if w != ^uint64(0) {
			return k*64 + bits.TrailingZeros64(^w)
		}
	}
	return words * 64
}
