package lower

import (
	"maps"
	"slices"

	"hackamore/ssa"
)

// open returns the variables of a function that may be read ahead of all stores, ascending.
func open(f ssa.Func) []string {
	used := map[int]bool{}
	preds := make([][]int, len(f.Blocks))
	for b, x := range f.Blocks {
		for _, i := range x.Ins {
			for _, v := range i.Args {
				used[v] = true
			}
		}
		for _, v := range slices.Concat(x.End.Args, x.End.Call.Args) {
			used[v] = true
		}
		for _, to := range x.End.To {
			preds[to] = append(preds[to], b)
		}
	}
	read, stored := make([]map[string]bool, len(f.Blocks)), make([]map[string]bool, len(f.Blocks))
	queue := []int{}
	for b, x := range f.Blocks {
		read[b], stored[b] = map[string]bool{}, map[string]bool{}
		for _, i := range x.Ins {
			if (i.Op == ssa.Load || i.Op == ssa.Store && used[i.Result]) && !stored[b][i.Text] {
				read[b][i.Text] = true
			}
			if i.Op == ssa.Store {
				stored[b][i.Text] = true
			}
		}
		queue = append(queue, b)
	}
	for len(queue) > 0 {
		b := queue[len(queue)-1]
		queue = queue[:len(queue)-1]
		for _, a := range preds[b] {
			ahead := len(read[a])
			for _, name := range slices.Sorted(maps.Keys(read[b])) {
				if !stored[a][name] {
					read[a][name] = true
				}
			}
			if len(read[a]) > ahead {
				queue = append(queue, a)
			}
		}
	}
	return slices.Sorted(maps.Keys(read[0]))
}
