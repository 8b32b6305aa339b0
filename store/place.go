package store

import (
	"bodkin/cluster"
)

// near is how many bytes on either side of an offset tell whether it is a boundary.
const near = 4

// firstReach is how far from an offset a boundary is looked for at first: most clusters are far shorter.
const firstReach = 32

// Boundary answers whether at is a boundary of the text.
func (s *Store) Boundary(at int) bool {
	n := s.Len()
	if at < 0 || n < at {
		return false
	}
	from := max(at-near, 0)
	return cluster.Boundary(s.piece(from, min(at+near, n)), at-from)
}

// Next answers the least boundary above at, or the text's length.
func (s *Store) Next(at int) int {
	n := s.Len()
	if at < 0 {
		return 0
	}
	if at >= n {
		return n
	}
	from := max(at-near, 0)
	for reach := firstReach; ; reach *= 2 {
		to := min(at+reach, n)
		next := from + cluster.Next(s.piece(from, to), at-from)
		// Nearer to where the piece was cut off, its own boundaries need not be the text's.
		if next <= to-near || to == n {
			return next
		}
	}
}

// Prev answers the greatest boundary below at, or 0.
func (s *Store) Prev(at int) int {
	n := s.Len()
	if at > n {
		return n
	}
	if at <= 0 {
		return 0
	}
	to := min(at+near, n)
	for reach := firstReach; ; reach *= 2 {
		from := max(at-reach, 0)
		prev := from + cluster.Prev(s.piece(from, to), at-from)
		if prev >= from+near || from == 0 {
			return prev
		}
	}
}

// Snap answers the least boundary that is not below at, or the text's length.
func (s *Store) Snap(at int) int {
	if s.Boundary(at) {
		return at
	}
	return s.Next(at)
}
