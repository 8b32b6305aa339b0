package seek

import "bodkin/api"

// count is which of the three counts is meant. Its method keeps every other type out.
type count interface{ isCount() }

type (
	ofClusters struct{}
	ofLines    struct{}
	ofCells    struct{}
)

func (ofClusters) isCount() {}
func (ofLines) isCount()    {}
func (ofCells) isCount()    {}

// all answers the count of a whole text by its summary.
func all(c count, m api.Summary) int {
	switch c.(type) {
	case ofClusters:
		return m.Clusters
	case ofLines:
		return m.Newlines
	case ofCells:
		return m.Cells
	}
	return 0
}

// item answers at which byte something begins that a cluster adds to the count, and how much it adds.
func item(c count, x api.Cluster) (at, n int) {
	switch c.(type) {
	case ofClusters:
		return x.At, 1
	case ofLines:
		if x.Class == api.ClassNewline {
			// Its LF counts, which a CR may stand ahead of.
			return x.To - 1, 1
		}
	case ofCells:
		return x.At, x.Cells
	}
	return x.At, 0
}
