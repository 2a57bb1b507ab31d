// Package scan cuts texts into tokens.
package scan

import (
	"munch/api"
	"munch/table"
)

// tokenAt answers the token of a text at a place: the longest one with a rule, else one byte of the rule None.
func tokenAt(t *api.Tables, text string, at int) api.Token {
	token := api.Token{Rule: api.None, At: at, Len: 1}
	state := 0
	for i := at; i < len(text); i++ {
		state = table.Step(t, state, int(text[i]))
		if state == api.None {
			return token
		}
		rule := table.Label(t, state)
		if rule != api.None {
			token.Rule = rule
			token.Len = i + 1 - at
		}
	}
	return token
}

// Cut answers the tokens of a text by sound tables (P8).
func Cut(t *api.Tables, text string) ([]api.Token, api.Errno) {
	if len(text) > api.MaxText {
		return nil, api.ErrLong
	}
	var tokens []api.Token
	at := 0
	for at < len(text) {
		token := tokenAt(t, text, at)
		tokens = append(tokens, token)
		at += token.Len
	}
	return tokens, api.OK
}
