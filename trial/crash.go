package trial

// Subsets are all ways in which a crash can keep n writes.
func Subsets(n int) [][]bool {
	l := make([][]bool, 1<<n)
	for bits := range l {
		for k := range n {
			l[bits] = append(l[bits], bits>>k&1 == 1)
		}
	}
	return l
}
