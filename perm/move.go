package perm

import "timbre/api"

// Moved is the list whose place i has what stands at the place p[i] of list; it refuses a p that is no permutation, and one of another length.
func Moved(list []complex128, p []int) ([]complex128, error) {
	return movedCopy(list, p)
}

// Move moves list itself so, and leaves its spare room alone.
func Move(list []complex128, p []int) error {
	return move(list, p)
}

// move moves a list of any kind in place: along each cycle of p, each place gets what stands at the next one.
func move[T any](list []T, p []int) error {
	if err := Check(p); err != nil {
		return err
	}
	if len(list) != len(p) {
		return api.ErrLength
	}
	for first := range leastPlaces(p) {
		held := list[first]
		at := first
		for ; p[at] != first; at = p[at] {
			list[at] = list[p[at]]
		}
		list[at] = held
	}
	return nil
}

func movedCopy[T any](list []T, p []int) ([]T, error) {
	out := copied(list)
	if err := move(out, p); err != nil {
		return nil, err
	}
	return out, nil
}

func copied[T any](list []T) []T {
	out := make([]T, len(list))
	copy(out, list)
	return out
}

// Turned is the list of a grid of so many rows, column by column; it refuses rows below 1, and those that don't divide the list's length.
func Turned(list []complex128, rows int) ([]complex128, error) {
	if rows < 1 || len(list)%rows != 0 {
		return nil, api.ErrLength
	}
	columns := len(list) / rows
	out := make([]complex128, 0, len(list))
	for j := range columns { // outside: nothing has any number of rows, but no column
		for i := range rows {
			out = append(out, list[i*columns+j])
		}
	}
	return out, nil
}
