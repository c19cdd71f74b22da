package scan

import "martello/api"

// count reads how often something is repeated.
type count struct{ reader }

// takeTimes takes a count's number, and tells whether there is one.
func (c *count) takeTimes() (int, bool) {
	number, digits := c.takeNumber(10, len(c.text), api.MaxRepeat)
	return number, digits > 0
}
