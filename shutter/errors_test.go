package shutter_test

import (
	"slices"
	"testing"

	"fiducial/api"
	"fiducial/shutter"
)

// functions are the functions with errors of their own, with the arguments of a call; they return whether all other results are zero.
func functions() map[string]func(n call) (bool, api.Code) {
	return map[string]func(n call) (bool, api.Code){
		"Check": func(n call) (bool, api.Code) { return true, shutter.Check(n.s, 1) },
		"Time":  func(n call) (bool, api.Code) { when, code := shutter.Time(n.s, n.row); return when == 0, code },
		"Pose": func(n call) (bool, api.Code) {
			at, turn, code := shutter.Pose(n.s, n.row)
			return isZero(at[:]...) && turn == (api.Quat{}), code
		},
		"Ground": func(n call) (bool, api.Code) {
			p, code := shutter.Ground(n.s, n.c, n.at, n.height)
			return isZero(p.X, p.Y), code
		},
		"Image": func(n call) (bool, api.Code) {
			p, code := shutter.Image(n.s, n.c, n.row, n.ground, n.height)
			return isZero(p.X, p.Y), code
		},
		"Correct": func(n call) (bool, api.Code) {
			p, code := shutter.Correct(n.s, n.c, n.at, n.row, n.height)
			return isZero(p.X, p.Y), code
		},
		"Rows": func(n call) (bool, api.Code) {
			rows, code := shutter.Rows(n.s, n.c, n.rows, n.ground, n.height)
			return len(rows) == 0, code
		},
	}
}

// fault is what may be wrong in a call: its code, a change that makes it so, and for which functions it is a fault.
type fault struct {
	code   api.Code
	change func(n *call)
	of     []string
}

// opposite makes the rotation zero at a time.
func opposite(n *call, time int) {
	n.s.A.Turn, n.s.B.Turn, n.s.A.Time, n.s.B.Time = quat(0, 1, 0, 0), quat(0, -1, 0, 0), time-50, time+50
}

// faults are faults in the order in which they are asked for. The last of those that are made is the first.
func faults() []fault {
	all := []string{"Check", "Time", "Pose", "Ground", "Image", "Correct", "Rows"}
	views := []string{"Ground", "Image", "Correct", "Rows"}
	var l []fault
	put := func(code api.Code, of []string, change func(n *call, x int), numbers ...int) {
		for _, x := range numbers {
			l = append(l, fault{code, func(n *call) { change(n, x) }, of})
		}
	}
	put(api.ErrRange, []string{"Rows"}, func(n *call, x int) { n.rows = x }, append(far(), 0, -1, 65)...)
	put(api.ErrRange, all, func(n *call, x int) { n.s.First = x }, far()...)
	put(api.ErrRange, all, func(n *call, x int) { n.s.Step = x }, maxTime+1)
	put(api.ErrRange, all, func(n *call, x int) { n.s.A.At.Z = x }, maxCoord+1, -maxCoord-1)
	put(api.ErrRange, all, func(n *call, x int) { n.s.B.Turn.A = x }, maxPart+1, -maxPart-1)
	put(api.ErrArgument, all, func(n *call, x int) { n.s.A.Turn = api.Quat{} }, 0)
	put(api.ErrArgument, all, func(n *call, x int) { n.s.B.Turn = api.Quat{} }, 0)
	put(api.ErrArgument, all, func(n *call, x int) { n.s.B.Time = n.s.A.Time - x }, 0, 1)
	put(api.ErrDegenerate, all, func(n *call, x int) { opposite(n, n.s.First) }, 0)
	put(api.ErrDegenerate, []string{"Rows"}, func(n *call, x int) { opposite(n, n.s.First+x*n.s.Step) }, 1, 2, 5, 63)
	put(api.ErrRange, []string{"Time", "Pose", "Image", "Correct"}, func(n *call, x int) { n.row = x }, append(far(), -1, 64)...)
	put(api.ErrRange, views, func(n *call, x int) { n.c.Focal = x }, append(far(), 0, -1, maxFocal+1)...)
	put(api.ErrRange, views, func(n *call, x int) { n.c.Centre.X = x }, append(far(), maxCoord+1, -maxCoord-1)...)
	put(api.ErrRange, views, func(n *call, x int) { n.c.Centre.Y = x }, append(far(), maxCoord+1, -maxCoord-1)...)
	put(api.ErrRange, views, func(n *call, x int) { n.height = x }, append(far(), maxCoord+1, -maxCoord-1)...)
	put(api.ErrRange, []string{"Ground", "Correct"}, func(n *call, x int) { n.at.X = x }, append(far(), maxCoord+1, -maxCoord-1)...)
	put(api.ErrRange, []string{"Ground", "Correct"}, func(n *call, x int) { n.at.Y = x }, append(far(), -1, -63, -64, 4096, 4097, maxCoord, -maxCoord)...)
	for i, x := range notCanonical() {
		put(api.ErrArgument, []string{"Image", "Rows"}, func(n *call, k int) { n.ground.X = x }, i)
		put(api.ErrArgument, []string{"Image", "Rows"}, func(n *call, k int) { n.ground.Y = x }, i)
	}
	put(api.ErrDegenerate, []string{"Pose", "Image"}, func(n *call, x int) { n.row = x; opposite(n, n.s.First+x*n.s.Step) }, 1, 3, 63)
	put(api.ErrDegenerate, []string{"Ground", "Correct"}, func(n *call, x int) { n.at.Y = 64 * x; opposite(n, n.s.First+x*n.s.Step) }, 1, 4, 63)
	put(api.ErrDegenerate, []string{"Ground", "Correct"}, func(n *call, x int) {
		n.s.A.Turn, n.s.B.Turn = quat(1, 0, 1, 0), quat(1, 0, 1, 0)
		n.at.X = n.c.Centre.X
	}, 0)
	put(api.ErrBehind, []string{"Ground", "Image", "Correct"}, func(n *call, x int) { n.s.A.At.Z, n.s.B.At.Z = x, x }, -1, -1000)
	return l
}

// P19.1 to P19.6: each fault alone, and each pair of faults: the code is that of the fault that comes first.
func TestFaults(t *testing.T) {
	list := functions()
	for name, f := range list {
		if _, code := f(example()); code != api.OK {
			t.Fatalf("%s of the example: %d", name, code)
		}
	}
	faults := faults()
	for i, first := range faults {
		for _, second := range faults[i:] {
			for name, f := range list {
				if !slices.Contains(first.of, name) || !slices.Contains(second.of, name) {
					continue
				}
				n := example()
				second.change(&n)
				first.change(&n)
				if zero, code := f(n); code != first.code || !zero {
					t.Fatalf("%s(%v): zero %t, %d, want %d; then %d", name, n, zero, code, first.code, second.code)
				}
			}
		}
	}
}

// P19.1 to P19.6: what is no argument of a function is not asked for.
func TestOtherFaults(t *testing.T) {
	list := functions()
	for _, fault := range faults() {
		for name, f := range list {
			// The other faults of the shutter are faults of some rows only.
			if slices.Contains(fault.of, name) || fault.code == api.ErrDegenerate || fault.code == api.ErrBehind {
				continue
			}
			n := example()
			fault.change(&n)
			if _, code := f(n); code != api.OK {
				t.Errorf("%s(%v): %d", name, n, code)
			}
		}
	}
}

// P19.1: numbers at the ends of their ranges are accepted.
func TestEnds(t *testing.T) {
	list := functions()
	for _, change := range []func(n *call){
		func(n *call) { n.row = 63 },
		func(n *call) { n.rows = 1 },
		func(n *call) { n.c.Focal = 1 },
		func(n *call) { n.c.Focal = maxFocal },
		func(n *call) { n.c.Centre = api.Pix{X: maxCoord, Y: -maxCoord} },
		func(n *call) { n.c.Centre = api.Pix{X: -maxCoord, Y: maxCoord} },
		func(n *call) { n.height = -maxCoord },
		func(n *call) { n.height, n.s.A.At.Z, n.s.B.At.Z = maxCoord-1, maxCoord, maxCoord },
		func(n *call) { n.at = api.Pix{X: maxCoord} },
		func(n *call) { n.at = api.Pix{X: -maxCoord, Y: 4095} },
		func(n *call) { n.s.First, n.s.Step = maxTime, -maxTime },
		func(n *call) { n.s.A.Time, n.s.B.Time = -maxTime, maxTime },
	} {
		n := example()
		change(&n)
		for name, f := range list {
			if _, code := f(n); code != api.OK {
				t.Errorf("%s(%v): %d", name, n, code)
			}
		}
	}
}

// P19.5: Correct returns the errors of Ground, then asks for the rotation of the row, then returns those of Image.
func TestCorrectErrors(t *testing.T) {
	n := example()
	opposite(&n, 30)
	if p, code := shutter.Correct(n.s, n.c, n.at, 3, 0); code != api.ErrDegenerate || !isZero(p.X, p.Y) {
		t.Errorf("Correct to a row without rotation: %v, %d", p, code)
	}
	// Behind the row 3 the mixture looks down like before it: a quaternion and its negative are the same rotation.
	if _, code := shutter.Correct(n.s, n.c, n.at, 4, 0); code != api.OK {
		t.Errorf("Correct to the row 4: %d", code)
	}
	if p, code := shutter.Correct(n.s, n.c, n.at, 3, 1001); code != api.ErrBehind || !isZero(p.X, p.Y) {
		t.Errorf("Correct of a point behind: %v, %d", p, code)
	}
	n = example()
	n.s.A.Turn, n.s.B.Turn = quat(0, 1, 0, 0), quat(1, 0, 0, 0)
	n.s.A.Time, n.s.B.Time = 0, 400
	if _, code := shutter.Ground(n.s, n.c, n.at, 0); code != api.OK {
		t.Errorf("Ground: %d", code)
	}
	if p, code := shutter.Correct(n.s, n.c, n.at, 40, 0); code != api.ErrBehind || !isZero(p.X, p.Y) {
		t.Errorf("Correct to a row that looks up: %v, %d", p, code)
	}
}

// overwrite changes all that a fraction shows of its memory, and what an append would write behind it.
func overwrite(x api.Rat) {
	for _, groups := range [][]uint32{x.Num.Groups, x.Den.Groups} {
		for i := range groups {
			groups[i] = 123
		}
		_ = append(groups, 123)
	}
}

// Results share no memory with arguments or with one another; a camera with the focal length of its height takes the ground as it is.
func TestShared(t *testing.T) {
	n := example()
	n.s.A.At = api.Spot{Z: 1 << 19}
	n.s.B.At = n.s.A.At
	n.c = shutter.Camera{Focal: 1 << 19}
	n.ground = place("1234567890123456789/7", "-9876543210987654321/7")
	image, code := shutter.Image(n.s, n.c, 0, n.ground, 0)
	at, _, poseCode := shutter.Pose(n.s, 0)
	ground, groundCode := shutter.Ground(n.s, n.c, api.Pix{X: 5, Y: 5}, 0)
	if code != api.OK || poseCode != api.OK || groundCode != api.OK || placeText(image) != "1234567890123456789/7 9876543210987654321/7" {
		t.Fatalf("Image = %s, %d", placeText(image), code)
	}
	list := []api.Rat{image.X, image.Y, at[0], at[1], at[2], ground.X, ground.Y, n.ground.X, n.ground.Y}
	for i, x := range list {
		before := text(list[i+1:]...)
		overwrite(x)
		if text(list[i+1:]...) != before {
			t.Errorf("result %d shares memory", i)
		}
	}
}
