package num

// rootBits is how many bits a root, times 2^32, has at most: that of 65535 is below 2^8.
const rootBits = 8 + wordBits

// wide is a number of 128 bits, its lowest word first: the powers that a root is tried by have up to 120.
type wide [4]uint32

// widen is x as a wide number.
func widen(x uint64) wide {
	return wide{uint32(x), uint32(x >> wordBits)}
}

// times is the product of two wide numbers, what goes beyond being lost.
func times(a, b wide) wide {
	var product wide
	for i, x := range a {
		carry := uint64(0)
		for j := range len(product) - i {
			carry += uint64(x)*uint64(b[j]) + uint64(product[i+j])
			product[i+j] = uint32(carry)
			carry >>= wordBits
		}
	}
	return product
}

// above says whether a is greater than b.
func above(a, b wide) bool {
	for i := len(a) - 1; i >= 0; i-- {
		if a[i] != b[i] {
			return a[i] > b[i]
		}
	}
	return false
}

// power is the k-th power of x, of k from 1 on.
func power(x uint64, k int) wide {
	base := widen(x)
	product := base
	for range k - 1 {
		product = times(product, base)
	}
	return product
}

// root is the whole part of the k-th root of goal, if that is below 2^rootBits: it is found bit by bit, the highest first.
func root(goal wide, k int) uint64 {
	var found uint64
	for place := rootBits - 1; place >= 0; place-- {
		tried := found | 1<<place
		if !above(power(tried, k), goal) {
			found = tried
		}
	}
	return found
}
