package lower_test

import "fmt"

// told returns a text of anything in which a nil list is an empty one.
func told(v any) string { return fmt.Sprintf("%q", v) }
