package weigh

import "container/heap"

// node is a symbol, or two nodes that were put together.
type node struct {
	weight int
	made   int // how many were made ahead of it
}

// pile is nodes, the least on top, by container/heap.
type pile []node

// Len is how many nodes there are.
func (p pile) Len() int { return len(p) }

// Less holds two nodes against each other: of equal weights that is less which was made first.
func (p pile) Less(i, j int) bool {
	if p[i].weight != p[j].weight {
		return p[i].weight < p[j].weight
	}
	return p[i].made < p[j].made
}

// Swap changes two nodes' places.
func (p pile) Swap(i, j int) { p[i], p[j] = p[j], p[i] }

// Push lays a node at the end, for container/heap.
func (p *pile) Push(x any) { *p = append(*p, x.(node)) }

// Pop takes the node at the end off, for container/heap.
func (p *pile) Pop() any {
	last := len(*p) - 1
	n := (*p)[last]
	*p = (*p)[:last]
	return n
}

// least takes the least node off a pile that has one.
func least(p *pile) node {
	return heap.Pop(p).(node)
}
