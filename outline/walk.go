// Package outline has what the layers share that look at programs in steps as plain data: the steps at all depths, how large a program is, and which fields its types and steps have.
package outline

import (
	"iter"

	"heriot/api"
)

// Steps goes through the steps of a block at all depths, each one ahead of those in its blocks; with a step comes the depth of its block, 1 for the outermost.
func Steps(b *api.Block) iter.Seq2[int, *api.Step] {
	return func(yield func(int, *api.Step) bool) { eachStep(b, 1, yield) }
}

// eachStep tells whether it has gone through all steps.
func eachStep(b *api.Block, depth int, yield func(int, *api.Step) bool) bool {
	for i := range b.Steps {
		s := &b.Steps[i]
		if !yield(depth, s) {
			return false
		}
		for j := range s.Blocks {
			if !eachStep(&s.Blocks[j], depth+1, yield) {
				return false
			}
		}
	}
	return true
}
