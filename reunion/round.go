package reunion

import (
	"sync"

	"reunion/api"
	"reunion/replica"
)

// pull is what came of pulling all by a pair: the replica as it would be.
type pull struct {
	after   *replica.Replica
	changes []api.Change
	refusal api.Errno
}

// arePairs says whether each pair is of two different replicas.
func (t *Net) arePairs(pairs ...api.Pair) bool {
	for _, pair := range pairs {
		if !t.has(pair.To) || !t.has(pair.From) || pair.To == pair.From {
			return false
		}
	}
	return true
}

// areApart says whether no replica is in two of the pairs.
func areApart(pairs []api.Pair) bool {
	var taken [api.MaxReplicas]bool
	for _, pair := range pairs {
		if taken[pair.To] || taken[pair.From] {
			return false
		}
		taken[pair.To], taken[pair.From] = true, true
	}
	return true
}

// pullsOf pulls by all pairs at the same time. They are apart, so that no
// replica is asked by two goroutines, and the net itself stays as it is.
func (t *Net) pullsOf(pairs []api.Pair) []pull {
	pulls := make([]pull, len(pairs))
	var all sync.WaitGroup
	for i, pair := range pairs {
		all.Go(func() {
			to, from, own := t.replicas[pair.To], t.replicas[pair.From], &pulls[i]
			own.after, own.changes, own.refusal = to.Pulled(from)
		})
	}
	all.Wait()
	return pulls
}
