package posting

import "testing"

// The floors of a tower: on each the last number of each full row of the floor below, up to a floor that is less than a row.
func TestFloors(t *testing.T) {
	for count := range 1200 {
		foot := make([]int, count)
		for i := range foot {
			foot[i] = 5 * i
		}
		under := 1 // how many numbers of the foot a number of the floor stands for
		for floor, numbers := range towerOn(foot) {
			if len(numbers) != count/under || under > 1 && len(numbers) == 0 {
				t.Fatalf("floor %d of %d numbers has %d", floor, count, len(numbers))
			}
			for i, n := range numbers {
				if n != foot[(i+1)*under-1] {
					t.Fatalf("floor %d of %d numbers has %d at %d", floor, count, n, i)
				}
			}
			under *= wide
		}
		if count/under > 0 {
			t.Fatalf("the last floor of %d numbers is a row or more", count)
		}
	}
}
