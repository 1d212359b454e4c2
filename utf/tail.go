package utf

// tail is bytes from a place on, one at least.
type tail []byte

// readers are the ways to read a tail's scalar, by how many bytes it has.
// Each answers -1 if they are no scalar's, and asks for as many bytes to be there.
func readers() [5]func(tail) int {
	return [5]func(tail) int{tail.none, tail.one, tail.two, tail.three, tail.four}
}

// many is how many bytes a scalar has that begins by the first byte; 0, if none does.
func (t tail) many() int {
	switch lead := t[0]; {
	case lead < leastOfTwo:
		return 1
	case lead < leadOfTwo:
		return 0
	case lead < leadOfThree:
		return 2
	case lead < leadOfFour:
		return 3
	case lead < noLead:
		return 4
	}
	return 0
}

func (t tail) none() int {
	return -1
}

func (t tail) one() int {
	return int(t[0])
}

func (t tail) two() int {
	return scalarFrom(leastOfTwo, t.add(int(t[0])-leadOfTwo, 1))
}

func (t tail) three() int {
	high := t.add(int(t[0])-leadOfThree, 1)
	return scalarFrom(leastOfThree, t.add(high, 2))
}

func (t tail) four() int {
	high := t.add(int(t[0])-leadOfFour, 1)
	return scalarFrom(leastOfFour, t.add(t.add(high, 2), 3))
}

// add puts the six bits of the byte at i behind those of high; -1, if that byte can't follow, or high is -1 already.
func (t tail) add(high, i int) int {
	if high < 0 || t[i]/64 != trail/64 {
		return -1
	}
	return high*64 + int(t[i]%64)
}

// scalarFrom is r, or -1 if that is no scalar, or would be told by fewer bytes.
func scalarFrom(least, r int) int {
	if r < least || !May(r) {
		return -1
	}
	return r
}
