package machine

import "munch/place"

// kinds sorts the bytes: those that no place tells apart are of one kind. Of: of each byte its kind. Least: of each kind its least byte; the kinds are numbered in the order of these.
type kinds struct {
	of    [256]int
	least []byte
}

// toldApart tells whether a place matches but one of two bytes.
func toldApart(net *place.Net, a byte, b byte) bool {
	for p := 0; p < len(net.Has); p++ {
		if net.Has[p][a] != net.Has[p][b] {
			return true
		}
	}
	return false
}

func kindsOf(net *place.Net) kinds {
	var k kinds
	for i := 0; i < len(k.of); i++ {
		b := byte(i)
		kind := 0
		for kind < len(k.least) && toldApart(net, k.least[kind], b) {
			kind++
		}
		if kind == len(k.least) {
			k.least = append(k.least, b)
		}
		k.of[i] = kind
	}
	return k
}
