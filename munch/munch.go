// Package munch: tokens by patterns, out of packed tables: see DOC.md.
package munch

import (
	"munch/api"
	"munch/codec"
	"munch/machine"
	"munch/pack"
	"munch/pattern"
	"munch/scan"
	"munch/table"
)

// Lexer is what was loaded.
type Lexer struct {
	tables api.Tables // sound
}

// Check tells whether a list of patterns is one, and if not, which pattern is wrong, and where (P3).
func Check(patterns []string) (api.Errno, int, int) { return pattern.Check(patterns) }

// Encode writes tables as a file (P5).
func Encode(t api.Tables) (string, api.Errno) { return codec.Encode(&t) }

// Load takes a file (P6).
func Load(file string) (*Lexer, api.Errno) {
	t, e := codec.Decode(file)
	if e != api.OK {
		return nil, e
	}
	return &Lexer{tables: t}, api.OK
}

// Tables gives the tables of the file (P7).
func (x *Lexer) Tables() api.Tables { return table.Copy(&x.tables) }

// Label tells the rule of a state (P7).
func (x *Lexer) Label(state int) int { return table.Label(&x.tables, state) }

// Step tells where a byte leads from a state (P7).
func (x *Lexer) Step(state int, b int) int { return table.Step(&x.tables, state, b) }

// Scan cuts a text into tokens (P8).
func (x *Lexer) Scan(text string) ([]api.Token, api.Errno) { return scan.Cut(&x.tables, text) }

// Build makes the least machine of a list of patterns (P9).
func Build(patterns []string) (api.Machine, api.Errno) { return machine.Build(patterns) }

// Pack packs a machine's rows (P10).
func Pack(m api.Machine) (api.Tables, api.Errno) { return pack.Tables(&m) }

// Generate makes a file of a list of patterns (P11).
func Generate(patterns []string) (string, api.Errno) {
	m, e := machine.Build(patterns)
	if e != api.OK {
		return "", e
	}
	t, e := pack.Tables(&m)
	if e != api.OK {
		return "", e
	}
	return codec.Encode(&t)
}
