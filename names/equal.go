package names

import (
	"hackamore/api"
	"hackamore/exprs"
)

// Equal reports whether two programs are equal.
func Equal(a, b []api.Entity) bool { return exprs.EqualEntities(a, b) }
