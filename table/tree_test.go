package table

import (
	"math"
	"math/rand/v2"
	"slices"
	"testing"
)

// checkNode asks whether the rows of n rise, lie between these bounds, and are counted and balanced at each node; it answers the depth.
func checkNode(t *testing.T, n *node[int, int], lo, hi int) int {
	t.Helper()
	if n == nil {
		return 0
	}
	if n.key < lo || n.key >= hi {
		t.Fatalf("the key %d isn't from %d on and below %d", n.key, lo, hi)
	}
	if n.size != n.left.count()+1+n.right.count() {
		t.Fatalf("%d rows, of %d and %d", n.size, n.left.count(), n.right.count())
	}
	if a, b := n.left.weight(), n.right.weight(); a > 3*b || b > 3*a {
		t.Fatalf("the weights %d and %d stand beside each other", a, b)
	}
	return 1 + max(checkNode(t, n.left, lo, n.key), checkNode(t, n.right, n.key+1, hi))
}

func checkTree(t *testing.T, n *node[int, int], want int) {
	t.Helper()
	depth := checkNode(t, n, math.MinInt, math.MaxInt)
	// No side of a node has more than three quarters of its weight.
	if most := math.Log(float64(n.weight())) / math.Log(4.0/3); float64(depth) > most {
		t.Fatalf("%d rows lie %d deep", n.count(), depth)
	}
	if n.count() != want {
		t.Fatalf("%d rows, want %d", n.count(), want)
	}
}

// orders are ways to go through the numbers below size.
func orders(size int) map[string][]int {
	rising := make([]int, size)
	for i := range rising {
		rising[i] = i
	}
	falling := slices.Clone(rising)
	slices.Reverse(falling)
	var inward, outward []int
	for i := range size {
		if i%2 == 0 {
			inward = append(inward, i/2)
		} else {
			inward = append(inward, size-1-i/2)
		}
	}
	outward = slices.Clone(inward)
	slices.Reverse(outward)
	rnd := rand.New(rand.NewPCG(1, 2))
	return map[string][]int{"rising": rising, "falling": falling, "inward": inward, "outward": outward, "any": rnd.Perm(size), "any other": rnd.Perm(size)}
}

// TestBalance puts rows in each order, and deletes them in each order.
func TestBalance(t *testing.T) {
	all := orders(500)
	for _, puts := range all {
		var full *node[int, int]
		for i, key := range puts {
			full = full.with(key, key)
			checkTree(t, full, i+1)
		}
		for _, deletes := range all {
			n := full
			for i, key := range deletes {
				n = n.without(key)
				checkTree(t, n, len(deletes)-i-1)
			}
		}
		checkTree(t, full, 500)
	}
}

// TestBalanceOfSmallTrees puts up to seven rows in all orders, and deletes some of them in the order of their keys or the other way round.
func TestBalanceOfSmallTrees(t *testing.T) {
	var put func(n *node[int, int], free []int)
	put = func(n *node[int, int], free []int) {
		checkTree(t, n, 7-len(free))
		checkDeletes(t, n)
		for i, key := range free {
			put(n.with(key, key), slices.Delete(slices.Clone(free), i, i+1))
		}
	}
	put(nil, []int{0, 1, 2, 3, 4, 5, 6})
}

func checkDeletes(t *testing.T, n *node[int, int]) {
	t.Helper()
	if n.count() != 7 {
		return
	}
	for first := range 7 {
		for stride := 1; stride < 7; stride++ {
			left := n
			for i := range 7 {
				left = left.without((first + i*stride) % 7)
				checkTree(t, left, 6-i)
			}
		}
	}
}

// TestBalanceOfALongLife puts and deletes any rows of a tree that grows and shrinks.
func TestBalanceOfALongLife(t *testing.T) {
	rnd := rand.New(rand.NewPCG(3, 4))
	var n *node[int, int]
	there := map[int]bool{}
	for i := range 20000 {
		key := rnd.IntN(400)
		// More puts than deletes for a while, then the other way round.
		if rnd.IntN(10) < 3+i/1000%2*4 {
			n = n.with(key, i)
			there[key] = true
		} else {
			n = n.without(key)
			delete(there, key)
		}
		checkTree(t, n, len(there))
	}
}

func TestBalanceOfAGreatTree(t *testing.T) {
	var n *node[int, int]
	for key := range 1 << 17 {
		n = n.with(key, key)
	}
	checkTree(t, n, 1<<17)
	for key := range 1 << 17 {
		if key%16 != 0 {
			n = n.without(key)
		}
	}
	checkTree(t, n, 1<<13)
}
