package pack

import "munch/api"

// cells are the cells up to the last one that is not empty. All behind it are empty.
type cells struct {
	check []int
	next  []int
}

// fits tells whether the cells of these classes are empty, by this base.
func (c *cells) fits(base int, classes []int) bool {
	for _, class := range classes {
		k := base + class
		if k < len(c.check) && c.check[k] != api.None {
			return false
		}
	}
	return true
}

// baseFor answers the least base by which the cells of these classes are empty.
func (c *cells) baseFor(classes []int) int {
	for base := 0; base < len(c.check); base++ {
		fits := c.fits(base, classes)
		if fits {
			return base
		}
	}
	return len(c.check)
}

// put lays into the cell k, which is not below 0, whose it is and where it leads.
func (c *cells) put(k int, state int, next int) {
	for len(c.check) <= k {
		c.check = append(c.check, api.None)
		c.next = append(c.next, api.None)
	}
	c.check[k] = state
	c.next[k] = next
}
