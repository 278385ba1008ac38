// Package ver is layer 1: versions, as complex numbers. An epoch is the real part, a number there the imaginary part.
package ver

import (
	"math"

	"lockgate/api"
)

// Make is the version of an epoch and a number there.
func Make(epoch, num int) api.Ver {
	return api.Ver(complex(float64(epoch), float64(num)))
}

// Epoch is the version's epoch.
func Epoch(v api.Ver) int { return int(real(v)) }

// Num is the version's number in its epoch.
func Num(v api.Ver) int { return int(imag(v)) }

// Right tells whether v is a version.
func Right(v api.Ver) bool { return isCount(real(v)) && isCount(imag(v)) }

// Both bounds are asked with what holds, not with what fails: NaN answers false to either.
func isCount(x float64) bool {
	return x >= 0 && x <= api.MaxCount && math.Trunc(x) == x
}

// Ahead tells whether a is ahead of b.
func Ahead(a, b api.Ver) bool {
	if real(a) != real(b) {
		return real(a) < real(b)
	}
	return imag(a) < imag(b)
}

// Later is the one of a and b that the other one is ahead of.
func Later(a, b api.Ver) api.Ver {
	if Ahead(b, a) {
		return a
	}
	return b
}

// Next is the version of that epoch whose number is one more than v's: numbers go on from epoch to epoch.
func Next(v api.Ver, epoch int) api.Ver {
	return v + Make(epoch-Epoch(v), 1)
}
