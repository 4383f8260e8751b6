package digest

// levels returns the levels of the tree of l, from its leaves to its root, of which each is new.
func levels(l []string) func(yield func([]digest) bool) {
	return func(yield func([]digest) bool) {
		level := leaves(l)
		for yield(level) && len(level) > 1 {
			level = above(level)
		}
	}
}

// leaves returns the lowest level of the tree of l.
func leaves(l []string) []digest {
	level := make([]digest, width(len(l)))
	none := missing()
	for i := range level {
		if i < len(l) {
			level[i] = leafOf(l[i])
		} else {
			level[i] = none
		}
	}
	return level
}

// width returns the least power of two that is not less than n.
func width(n int) int {
	w := 1
	for w < n {
		w *= 2
	}
	return w
}

// above returns the next level above a level, the number of whose digests is even.
func above(level []digest) []digest {
	next := make([]digest, len(level)/2)
	for i := range next {
		next[i] = innerOf(level[2*i].text(), level[2*i+1].text())
	}
	return next
}
