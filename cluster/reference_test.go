package cluster_test

import (
	"slices"

	"bodkin/api"
	"bodkin/unit"
	"bodkin/width"
)

// This file tells clusters by the chapter's own words, from a list of all units of a text: the other tests hold the package against it.

// reference is what the chapter says of one text.
type reference struct {
	boundaries []int
	clusters   []api.Cluster
	cells      int
	drawn      string
}

// apart tells whether a boundary stands between two units that follow one another.
func apart(ahead, behind api.Unit) bool {
	if ahead.Char == 0xD && behind.Char == 0xA {
		return false
	}
	if width.Class(behind.Char) == api.ClassMark {
		switch width.Class(ahead.Char) {
		case api.ClassNewline, api.ClassControl:
			return true
		}
		return false
	}
	return true
}

// boundariesOf are the boundaries of s, in order.
func boundariesOf(s string) []int {
	units := unit.Units(s)
	list := []int{0}
	at := 0
	for n, u := range units {
		at += u.Size
		if n+1 == len(units) || apart(u, units[n+1]) {
			list = append(list, at)
		}
	}
	return list
}

// clusterOf is the cluster of s between two boundaries that follow one another.
func clusterOf(s string, at, to int) api.Cluster {
	c := api.Cluster{At: at, To: to}
	first := unit.Units(s[at:to])[0].Char
	c.Class = width.Class(first)
	if s[at:to] == "\x0d\x0a" {
		c.Class = api.ClassNewline
	}
	switch c.Class {
	case api.ClassNewline:
		c.Cells = 0
	case api.ClassControl:
		c.Cells = 1
		if first < 0x80 {
			c.Cells = 2
		}
	case api.ClassMark, api.ClassBad, api.ClassPlain:
		c.Cells = 1
	case api.ClassWide:
		c.Cells = 2
	}
	return c
}

// drawnFor is what is drawn for a cluster that has the bytes own.
func drawnFor(k api.Class, own string) string {
	first := unit.Units(own)[0]
	switch k {
	case api.ClassNewline:
		return ""
	case api.ClassControl:
		switch {
		case first.Char == 0x7F:
			return "^?"
		case first.Char < 0x80:
			return "^" + string(first.Char+64)
		}
		return "\xef\xbf\xbd"
	case api.ClassMark:
		return " " + own
	case api.ClassBad:
		return "\xef\xbf\xbd" + own[first.Size:]
	}
	return own
}

func referenceOf(s string) reference {
	r := reference{boundaries: boundariesOf(s)}
	for n := 1; n < len(r.boundaries); n++ {
		c := clusterOf(s, r.boundaries[n-1], r.boundaries[n])
		r.clusters = append(r.clusters, c)
		r.cells += c.Cells
		r.drawn += drawnFor(c.Class, s[c.At:c.To])
	}
	return r
}

// places are the answers for one offset.
type places struct {
	boundary         bool
	next, prev, snap int
}

// placesOf reckons the answers for at by going through all boundaries.
func (r reference) placesOf(s string, at int) places {
	p := places{boundary: slices.Contains(r.boundaries, at), next: len(s), snap: len(s)}
	for _, b := range slices.Backward(r.boundaries) {
		if b > at {
			p.next = b
		}
		if b >= at {
			p.snap = b
		}
	}
	for _, b := range r.boundaries {
		if b < at {
			p.prev = b
		}
	}
	return p
}
