package sum

// buckets hold for each digit but 0 the sum of the points that have it: that of
// digit d stands at d - 1.
type buckets[P point] struct {
	curve curve[P]
	sums  []P
}

func newBuckets[P point](c curve[P], width int) buckets[P] {
	return buckets[P]{curve: c, sums: make([]P, 1<<width-1)}
}

func (b buckets[P]) empty() {
	for i := range b.sums {
		b.sums[i] = b.curve.zero()
	}
}

// fill adds each point to the bucket of its digit.
func fill[P point](b buckets[P], points []P, digits []int) {
	for i, d := range digits {
		if d > 0 {
			b.sums[d-1] = b.curve.plus(b.sums[d-1], points[i])
		}
	}
}

// total is the sum of all buckets, each as often as its digit says: those from each
// digit up, added up, have each bucket just so often among them.
func (b buckets[P]) total() P {
	above, sum := b.curve.zero(), b.curve.zero()
	for i := len(b.sums) - 1; i >= 0; i-- {
		above = b.curve.plus(above, b.sums[i])
		sum = b.curve.plus(sum, above)
	}
	return sum
}
