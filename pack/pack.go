// Package pack packs the rows of a machine into cells.
package pack

import (
	"munch/api"
	"munch/table"
)

// Tables answers the tables of a machine (P10). They never have too many cells: a state takes the cells behind the last one if no others fit, and so adds no more cells than there are classes.
func Tables(m *api.Machine) (api.Tables, api.Errno) {
	sound := table.SoundMachine(m)
	if !sound {
		return api.Tables{}, api.ErrMachine
	}
	var t api.Tables
	t.Rules = m.Rules
	t.Class = table.CopyList(m.Class)
	t.Label = table.CopyList(m.Label)
	classes := table.Classes(m.Class)
	r := rows{classes, m.Next}
	var c cells
	for s := 0; s < len(m.Label); s++ {
		def, own := r.nearest(s)
		base := c.baseFor(own)
		for _, class := range own {
			next := r.lead(s, class)
			c.put(base+class, s, next)
		}
		t.Def = append(t.Def, def)
		t.Base = append(t.Base, base)
	}
	t.Check = c.check
	t.Next = c.next
	return t, api.OK
}
