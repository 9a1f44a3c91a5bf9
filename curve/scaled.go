package curve

import (
	"byname/api"
	"byname/field"
	"byname/wide"
)

// scaled is the point whose X is x by z times z, and whose Y is y by z times z
// times z; None, if z is 0. An Inv costs as much as hundreds of Muls: so sums
// of many points are taken in this form, which needs one at the end alone.
type scaled struct{ x, y, z api.Wide }

// twice is a and a; what is None stays so, as z stays 0.
func (a scaled) twice() scaled {
	r := field.P()
	squareX, squareY := r.Mul(a.x, a.x), r.Mul(a.y, a.y)
	up := r.Mul(wide.Of(3), squareX)
	across := r.Mul(wide.Of(4), r.Mul(a.x, squareY))
	x := r.Sub(r.Mul(up, up), r.Add(across, across))
	y := r.Sub(r.Mul(up, r.Sub(across, x)), r.Mul(wide.Of(8), r.Mul(squareY, squareY)))
	return scaled{x, y, r.Mul(wide.Of(2), r.Mul(a.y, a.z))}
}

// plus is a and b.
func (a scaled) plus(b api.Point) scaled {
	nought := api.Wide{}
	if b == none {
		return a
	}
	if a.z == nought {
		return scaled{b.X, b.Y, wide.Of(1)}
	}
	r := field.P()
	square := r.Mul(a.z, a.z)
	along := r.Sub(r.Mul(b.X, square), a.x)
	up := r.Sub(r.Mul(b.Y, r.Mul(square, a.z)), a.y)
	if along == nought && up == nought {
		return a.twice()
	}
	// If along alone is 0, b is Neg of a: then z gets 0, which is None.
	squareAlong := r.Mul(along, along)
	cube, across := r.Mul(squareAlong, along), r.Mul(a.x, squareAlong)
	x := r.Sub(r.Sub(r.Mul(up, up), cube), r.Add(across, across))
	y := r.Sub(r.Mul(up, r.Sub(across, x)), r.Mul(a.y, cube))
	return scaled{x, y, r.Mul(a.z, along)}
}

// point is a, as others know it.
func (a scaled) point() api.Point {
	r := field.P()
	inverse, e := r.Inv(a.z)
	if e != api.OK {
		return none
	}
	square := r.Mul(inverse, inverse)
	return api.Point{X: r.Mul(a.x, square), Y: r.Mul(a.y, r.Mul(square, inverse))}
}
