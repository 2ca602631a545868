// Package apitest holds package api against the document's sections Limits and Errors, and chapter 1's numbers of the classes.
package apitest

import (
	"errors"
	"testing"

	"timbre/api"
)

func TestLimits(t *testing.T) {
	for _, c := range []struct {
		name      string
		got, want int
	}{
		{"MaxLen", api.MaxLen, 4096},
		{"MaxInner", api.MaxInner, 16384},
		{"MaxActs", api.MaxActs, 67108864},
		{"MaxDirect", api.MaxDirect, 64},
		{"MaxDepth", api.MaxDepth, 16},
		{"MaxSteps", api.MaxSteps, 65536},
		{"MaxCells", api.MaxCells, 262144},
		{"MaxText", api.MaxText, 65536},
		{"MaxList", api.MaxList, 1048576},
		{"MaxOrders", api.MaxOrders, 4096},
		{"MaxWorkers", api.MaxWorkers, 64},
		{"MaxKept", api.MaxKept, 64},
		{"MaxSide", api.MaxSide, 1024},
	} {
		if c.got != c.want {
			t.Errorf("%s is %d, want %d", c.name, c.got, c.want)
		}
	}
}

func TestErrors(t *testing.T) {
	list := []struct {
		err   error
		words string
	}{
		{api.ErrShort, "too short"},
		{api.ErrVarint, "varint"},
		{api.ErrLimit, "limit"},
		{api.ErrTail, "tail"},
		{api.ErrRange, "range"},
		{api.ErrText, "text"},
		{api.ErrLength, "length"},
		{api.ErrOrder, "order"},
		{api.ErrProgram, "program"},
		{api.ErrState, "state"},
		{api.ErrRoot, "root"},
		{api.ErrPerm, "permutation"},
		{api.ErrNumber, "number"},
		{api.ErrWorkers, "workers"},
		{api.ErrDone, "done"},
		{api.ErrUnknown, "unknown"},
		{api.ErrMode, "mode"},
		{api.ErrCommand, "command"},
		{api.ErrExact, "exact"},
	}
	for i, c := range list {
		if c.err.Error() != "timbre: "+c.words {
			t.Errorf("error %d says %q", i+1, c.err.Error())
		}
		if errors.Unwrap(c.err) != nil {
			t.Errorf("error %d wraps another", i+1)
		}
		for j, d := range list {
			if (c.err == d.err) != (i == j) {
				t.Errorf("errors %d and %d are one value", i+1, j+1)
			}
		}
	}
}

func TestClasses(t *testing.T) {
	classes := []int{api.NegInf, api.NegNormal, api.NegSmall, api.NegZero, api.Zero, api.Small, api.Normal, api.Inf, api.NaN}
	for i, c := range classes {
		if c != i+1 {
			t.Errorf("class %d has the number %d", i+1, c)
		}
	}
}
