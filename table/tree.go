package table

import (
	"cmp"
	"iter"
)

// A tree weighs at most heaviest times what the one beside it does; a heavier one is turned over, from its inner side if that weighs at least innerHeavy times its outer one. Few pairs of numbers bring the weights back within the bound behind each row that is put or deleted; these do (Hirai and Yamamoto, Balancing weight-balanced trees).
const (
	heaviest   = 3
	innerHeavy = 2
)

// node is a row and the rows around it; nil is no rows. It is never changed once it is made, so that who holds one holds the rows of that moment, at no cost.
type node[K cmp.Ordered, V any] struct {
	key   K
	value V
	left  *node[K, V]
	right *node[K, V]
	size  int
}

// span is the keys from lo on; if it ends, those below hi alone.
type span[K cmp.Ordered] struct {
	lo, hi K
	ends   bool
}

func (s span[K]) begunAt(key K) bool { return s.lo <= key }

func (s span[K]) overAt(key K) bool { return s.ends && s.hi <= key }

func (n *node[K, V]) count() int {
	if n == nil {
		return 0
	}
	return n.size
}

// weight is never 0, so that a tree beside no rows has a bound too.
func (n *node[K, V]) weight() int { return n.count() + 1 }

func (n *node[K, V]) find(key K) (V, bool) {
	for n != nil && n.key != key {
		if key < n.key {
			n = n.left
		} else {
			n = n.right
		}
	}
	if n == nil {
		var none V
		return none, false
	}
	return n.value, true
}

// with is the rows of n, but this one of its key.
func (n *node[K, V]) with(key K, value V) *node[K, V] {
	switch {
	case n == nil:
		return &node[K, V]{key: key, value: value, size: 1}
	case key < n.key:
		return n.balanced(n.left.with(key, value), n.right)
	case key > n.key:
		return n.balanced(n.left, n.right.with(key, value))
	}
	return &node[K, V]{key, value, n.left, n.right, n.size}
}

// without is the rows of n, but none of this key.
func (n *node[K, V]) without(key K) *node[K, V] {
	switch {
	case n == nil:
		return nil
	case key < n.key:
		return n.balanced(n.left.without(key), n.right)
	case key > n.key:
		return n.balanced(n.left, n.right.without(key))
	case n.left == nil:
		return n.right
	case n.right == nil:
		return n.left
	}
	// The next row stands between the two sides from now on.
	next := n.right.first()
	return next.balanced(n.left, n.right.without(next.key))
}

func (n *node[K, V]) first() *node[K, V] {
	for n.left != nil {
		n = n.left
	}
	return n
}

// between is n's row with these trees beside it.
func (n *node[K, V]) between(left, right *node[K, V]) *node[K, V] {
	return &node[K, V]{n.key, n.value, left, right, left.weight() + right.count()}
}

// balanced is the rows that between has; one of the two trees may be too heavy by one row.
func (n *node[K, V]) balanced(left, right *node[K, V]) *node[K, V] {
	switch {
	case right.weight() > heaviest*left.weight():
		return n.turnedLeft(left, right)
	case left.weight() > heaviest*right.weight():
		return n.turnedRight(left, right)
	}
	return n.between(left, right)
}

func (n *node[K, V]) turnedLeft(left, right *node[K, V]) *node[K, V] {
	inner := right.left
	if inner.weight() < innerHeavy*right.right.weight() {
		return right.between(n.between(left, inner), right.right)
	}
	return inner.between(n.between(left, inner.left), right.between(inner.right, right.right))
}

func (n *node[K, V]) turnedRight(left, right *node[K, V]) *node[K, V] {
	inner := left.right
	if inner.weight() < innerHeavy*left.left.weight() {
		return left.between(left.left, n.between(inner, right))
	}
	return inner.between(left.between(left.left, inner.left), n.between(inner.right, right))
}

// rising goes over the rows of a span, by rising key.
func (n *node[K, V]) rising(s span[K]) iter.Seq2[K, V] {
	return func(yield func(K, V) bool) { n.rise(s, yield) }
}

// falling goes over them by falling key.
func (n *node[K, V]) falling(s span[K]) iter.Seq2[K, V] {
	return func(yield func(K, V) bool) { n.fall(s, yield) }
}

// rise tells whether to go on.
func (n *node[K, V]) rise(s span[K], yield func(K, V) bool) bool {
	switch {
	case n == nil:
		return true
	case !s.begunAt(n.key):
		return n.right.rise(s, yield)
	case s.overAt(n.key):
		return n.left.rise(s, yield)
	}
	return n.left.rise(s, yield) && yield(n.key, n.value) && n.right.rise(s, yield)
}

// fall tells whether to go on.
func (n *node[K, V]) fall(s span[K], yield func(K, V) bool) bool {
	switch {
	case n == nil:
		return true
	case !s.begunAt(n.key):
		return n.right.fall(s, yield)
	case s.overAt(n.key):
		return n.left.fall(s, yield)
	}
	return n.right.fall(s, yield) && yield(n.key, n.value) && n.left.fall(s, yield)
}
