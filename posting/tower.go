package posting

// wide is how many numbers of a floor have one on the floor above.
const wide = 8

// tower holds rising numbers, floor upon floor: all of them on the first one, and on each further one the last of each full
// row of those below, so that far ones are found without trying all that are between.
type tower [][]int

// towerOn answers the tower of which rising numbers are the first floor.
func towerOn(foot []int) tower {
	t := tower{foot}
	for len(t[len(t)-1]) >= wide {
		t = append(t, t.above())
	}
	return t
}

// above answers the floor that stands on the last one.
func (t tower) above() []int {
	var floor []int
	top := t[len(t)-1]
	for last := wide - 1; last < len(top); last += wide {
		floor = append(floor, top[last])
	}
	return floor
}

// seek answers the first place of the first floor, from one on, whose number isn't below n; behind the last one, if there is
// none. It goes up wherever a row begins, until a number isn't below n, and from there down: all that stands under what it
// has gone by is below n.
func (t tower) seek(at, n int) int {
	floor, up := 0, true
	for {
		switch {
		case up && at%wide == 0 && floor+1 < len(t):
			floor, at = floor+1, at/wide
		case t.isBelow(floor, at, n):
			at++
		case floor == 0:
			return at
		default:
			floor, at, up = floor-1, at*wide, false
		}
	}
}

// isBelow tells whether a floor has a number at a place, and it is below n.
func (t tower) isBelow(floor, at, n int) bool {
	return at < len(t[floor]) && t[floor][at] < n
}
