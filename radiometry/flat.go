package radiometry

import (
	"fiducial/api"
	"fiducial/integer"
	"fiducial/raster"
)

// Flat returns r corrected by a dark and a flat field.
func Flat(r, dark, flat api.Raster) (api.Raster, api.Code) {
	for _, image := range []api.Raster{r, dark, flat} {
		if code := raster.Check(image); code != api.OK {
			return api.Raster{}, code
		}
	}
	for _, image := range []api.Raster{dark, flat} {
		if image.Width != r.Width || image.Height != r.Height {
			return api.Raster{}, api.ErrMismatch
		}
	}
	result, all := copied(r), 0
	for i, f := range flat.Pixels {
		light := f - dark.Pixels[i]
		if light <= 0 {
			return api.Raster{}, api.ErrDegenerate
		}
		all += light
	}
	for i, d := range dark.Pixels {
		num, den := (r.Pixels[i]-d)*all, (flat.Pixels[i]-d)*len(dark.Pixels)
		result.Pixels[i] = grey(integer.Of(num), integer.Of(den), r.Max)
	}
	return result, api.OK
}
