package monoid

// Fold returns the join of the elements of list in their order, or the unit if there are none.
func Fold[T any, M Monoid[T]](m M, list ...T) T {
	result := m.Unit()
	for _, x := range list {
		result = m.Join(result, x)
	}
	return result
}

// Power returns the join of k copies of x, or the unit if k is less than 1.
func Power[T any, M Monoid[T]](m M, x T, k int) T {
	if k < 1 {
		return m.Unit()
	}
	// The copies that the lowest set bit of k stands for start the result: a join with the unit is not needed.
	for k%2 == 0 {
		x = m.Join(x, x)
		k /= 2
	}
	result := x
	for k > 1 {
		x = m.Join(x, x)
		k /= 2
		if k%2 == 1 {
			result = m.Join(result, x)
		}
	}
	return result
}

// Prefixes returns the folds of all prefixes of list, from the empty one to list itself.
func Prefixes[T any, M Monoid[T]](m M, list []T) []T {
	result := make([]T, len(list)+1)
	result[0] = m.Unit()
	for i, x := range list {
		result[i+1] = m.Join(result[i], x)
	}
	return result
}

// Window returns the folds of all windows of n elements, or nil if n is not from 1 to len(list).
//
// Blocks of n elements make the joins few: each window is the end of one block and the beginning of what follows it.
func Window[T any, M Monoid[T]](m M, list []T, n int) []T {
	if n < 1 || n > len(list) {
		return nil
	}
	result := make([]T, len(list)-n+1)
	for start := 0; start < len(result); start += n {
		stop := min(start+n, len(result))
		foldEnds(m, list[start:start+n], result[start:stop])
		joinBeginnings(m, list[start+n:], result[start+1:stop])
	}
	return result
}

// foldEnds sets result[i] to the fold of block from its element i on. Result may be shorter than block.
func foldEnds[T any, M Monoid[T]](m M, block, result []T) {
	last := len(block) - 1
	end := block[last]
	for i := last; i >= 0; i-- {
		if i < last {
			end = m.Join(block[i], end)
		}
		if i < len(result) {
			result[i] = end
		}
	}
}

// joinBeginnings joins each result[i] with the fold of the first i + 1 elements of list.
func joinBeginnings[T any, M Monoid[T]](m M, list, result []T) {
	var beginning T
	for i := range result {
		if i == 0 {
			beginning = list[0]
		} else {
			beginning = m.Join(beginning, list[i])
		}
		result[i] = m.Join(result[i], beginning)
	}
}
