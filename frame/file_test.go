package frame_test

import (
	"encoding/binary"
	"fmt"
	"math/rand"
	"slices"
	"strings"
	"testing"

	"fiducial/api"
	"fiducial/frame"
)

// P15.4, P15.5: files, byte by byte, and back.
func TestFiles(t *testing.T) {
	must(t, example())
	some(1500, func(r *rand.Rand) { must(t, randomFrame(r)) })
	for _, most := range []int{1, 255, 65534, 65535} {
		for _, grey := range []int{0, 1, most/2 + 1, most} {
			must(t, framed(api.Raster{Width: 64, Height: 64, Max: most, Pixels: slices.Repeat([]int{grey}, 64*64)}))
			must(t, framed(api.Raster{Width: 1, Height: 1, Max: most, Pixels: []int{grey}}))
		}
	}
	for _, size := range [][3]int{{1, 1, 20}, {2, 1, 9}, {3, 1, 4}, {1, 3, 4}, {2, 2, 3}, {3, 2, 1}} {
		lists(size[0]*size[1], size[2]+1, func(l []int) {
			must(t, framed(api.Raster{Width: size[0], Height: size[1], Max: size[2], Pixels: l}, "k", "v"))
		})
	}
}

// P15.4: the file of the example, and one whose rows end within bytes.
func TestFileExamples(t *testing.T) {
	for _, c := range []struct {
		f    api.Frame
		want string
	}{
		{framed(of(3, []int{1, 3, 0})), "FRAME1\n\n\x00\x00\x00\x03\x00\x00\x00\x01\x00\x00\x00\x03\x01j"},
		{framed(of(1, []int{0}), "a", "", "a_1", "b c "), "FRAME1\na \na_1 b c \n\n\x00\x00\x00\x01\x00\x00\x00\x01\x00\x00\x00\x01\x00\x00"},
		{framed(of(65535, []int{1}, []int{1})), "FRAME1\n\n\x00\x00\x00\x01\x00\x00\x00\x02\x00\x00\xff\xff\x00\x80\x00\x00"},
	} {
		file, code := frame.Encode(c.f)
		if code != api.OK || string(file) != c.want {
			t.Errorf("Encode(%v) = %q, %d, want %q", c.f, file, code, c.want)
		}
		must(t, c.f)
	}
}

// P15.4, P15.5: results share no memory with arguments.
func TestFilesShare(t *testing.T) {
	some(100, func(r *rand.Rand) {
		f := randomFrame(r)
		want, before := fileOf(f), copied(f)
		file, _ := frame.Encode(f)
		g, _ := frame.Decode(file)
		spoil(f)
		if !slices.Equal(file, want) {
			t.Fatalf("the file of %v shares its memory", before)
		}
		for i := range file {
			file[i] = '#'
		}
		if !same(g, before) {
			t.Fatalf("%v shares the memory of its file", before)
		}
		again, _ := frame.Decode(want)
		spoil(g)
		if !same(again, before) {
			t.Fatalf("%v is kept", before)
		}
	})
}

// P15.7: a file is at most as long as with the parameter 16 in each row.
func TestLengths(t *testing.T) {
	check := func(f api.Frame) {
		t.Helper()
		file, code := frame.Encode(f)
		if most := len(topOf(f)) + f.Raster.Height*(1+(17*f.Raster.Width+7)/8); code != api.OK || len(file) > most {
			t.Fatalf("the file of %v has %d bytes, at most %d, %d", f, len(file), most, code)
		}
	}
	some(1000, func(r *rand.Rand) {
		f := randomFrame(r)
		if r.Intn(2) == 0 {
			for i := range f.Raster.Pixels {
				f.Raster.Pixels[i] = r.Intn(f.Raster.Max + 1)
			}
		}
		check(f)
	})
	// All residuals are the greatest ones.
	a, _ := frame.Restore(64, 64, 65535, slices.Repeat([]int{65535}, 64*64))
	check(api.Frame{Raster: a, Meta: many(32)})
}

// files are all files of some small frames, with the frames.
func files() map[string]api.Frame {
	all := map[string]api.Frame{}
	for _, size := range [][3]int{{1, 1, 1}, {1, 1, 2}, {1, 1, 3}, {1, 1, 4}, {1, 1, 5}, {1, 1, 259}, {2, 1, 1}, {2, 1, 2}, {2, 1, 3}, {2, 1, 7}, {1, 2, 1}, {1, 2, 3}, {3, 1, 3}, {2, 2, 1}} {
		lists(size[0]*size[1], size[2]+1, func(l []int) {
			r := api.Raster{Width: size[0], Height: size[1], Max: size[2], Pixels: l}
			for _, meta := range [][]string{nil, {"a", ""}, {"b", ""}, {"a", "b"}, {"a", "", "b", ""}, {"ab", " "}} {
				f := framed(r, meta...)
				all[string(fileOf(f))] = f
			}
		})
	}
	return all
}

// P15.5: bytes near to files: exactly the files are accepted.
func TestDecodeNear(t *testing.T) {
	all := files()
	count := map[api.Code]int{}
	check := func(b []byte) {
		before := string(b)
		f, code := frame.Decode(b)
		count[code]++
		want, isFile := all[before]
		switch {
		case code == api.OK && (string(fileOf(f)) != before || frame.Check(f) != api.OK):
			t.Fatalf("Decode(%q) = %v", before, f)
		case isFile && (code != api.OK || !same(f, want)):
			t.Fatalf("Decode(%q) = %v, %d, want %v", before, f, code, want)
		case code != api.OK && (code != api.ErrSyntax || !isEmpty(f)):
			t.Fatalf("Decode(%q) = %v, %d", before, f, code)
		case string(b) != before:
			t.Fatalf("Decode has changed %q to %q", before, b)
		}
	}
	r := rand.New(rand.NewSource(5))
	for s := range all {
		check([]byte(s))
		for i := range len(s) {
			check([]byte(s[:i]))
			check([]byte(s[i:]))
			check([]byte(s[:i] + s[i+1:]))
			for range 6 {
				b := []byte(s)
				b[i] = pick(r, []byte{0, 1, 2, 3, 4, 'a', 'b', ' ', '\n', b[i] ^ 1<<r.Intn(8), byte(r.Intn(256))})
				check(b)
				check(slices.Insert([]byte(s), i, b[i]))
			}
		}
		for _, end := range []string{"\x00", "\n", "\x80", s} {
			check([]byte(s + end))
		}
	}
	if min(count[api.OK], count[api.ErrSyntax]) < 5000 {
		t.Errorf("%v", count)
	}
}

// P15.5: all values of the bytes behind the size of a raster of one pixel.
func TestDecodeAll(t *testing.T) {
	for _, most := range []int{1, 2, 3, 6, 7, 8, 255, 300} {
		accepted := map[string]bool{}
		for grey := range most + 1 {
			accepted[string(fileOf(framed(of(most, []int{grey}))))] = true
		}
		top := topOf(framed(of(most, []int{0})))
		found := 0
		check := func(end ...byte) {
			b := append(slices.Clone(top), end...)
			_, code := frame.Decode(b)
			if code == api.OK {
				found++
			}
			if (code == api.OK) != accepted[string(b)] {
				t.Fatalf("Decode(%q): %d", b, code)
			}
		}
		for k := range 256 {
			check(byte(k))
			for last := range 256 {
				check(byte(k), byte(last))
			}
		}
		for k := range 18 {
			for last := range 1 << 16 {
				if most == 300 && (k < 10 || k > 15) {
					check(byte(k), byte(last>>8), byte(last))
				}
			}
		}
		if (most < 10 || most == 300) && found != most+1 {
			t.Errorf("%d files with the greatest value %d", found, most)
		}
	}
}

// P15.5: what is not the file of a frame.
func TestDecodeInvalid(t *testing.T) {
	row := string(fileOf(framed(of(3, []int{1, 3, 0})))[20:])
	head := "FRAME1\n"
	size := func(numbers ...uint32) string {
		var b []byte
		for _, n := range numbers {
			b = binary.BigEndian.AppendUint32(b, n)
		}
		return string(b)
	}
	good := head + "a b\n\n" + size(3, 1, 3) + row
	if f, code := frame.Decode([]byte(good)); code != api.OK || !same(f, framed(of(3, []int{1, 3, 0}), "a", "b")) {
		t.Fatalf("Decode(%q) = %v, %d", good, f, code)
	}
	rest := "\n" + size(3, 1, 3) + row
	entries := func(n int) string {
		s := ""
		for _, e := range many(n) {
			s += e.Key + " \n"
		}
		return s
	}
	if _, code := frame.Decode([]byte(head + entries(32) + rest)); code != api.OK {
		t.Errorf("32 entries: %d", code)
	}
	bad := []string{
		"", "F", "FRAME1", head, head + "\n", head + "a", head + "a b", head + "a b\n", head + "a b\n\n", "FRAME2\n" + rest, "frame1\n" + rest, " " + head + rest, "FRAME1\r\n" + rest, "FRAME1" + rest, "FRAME1 \n" + rest, rest,
		head + "a\n" + rest, head + " a\n" + rest, head + " \n" + rest, head + "\n" + rest, head + "A b\n" + rest, head + "1 b\n" + rest, head + "a\tb\n" + rest, head + "a- b\n" + rest, head + "a b\r\n" + rest, head + "a \x7f\n" + rest, head + "a \x1f\n" + rest, head + "a \xc3\xa9\n" + rest, head + "a \x00\n" + rest,
		head + "b 1\na 1\n" + rest, head + "a 1\na 1\n" + rest, head + "a 1\na 2\n" + rest, head + "ab 1\na 1\n" + rest, head + entries(33) + rest, head + entries(34) + rest, head + strings.Repeat("a\n", 1000) + rest,
		head + strings.Repeat("k", 25) + " v\n" + rest, head + "k " + strings.Repeat("v", 121) + "\n" + rest, head + "a b\n\n" + rest,
		good + "\x00", good + "\n", good + row, good[:len(good)-1], good[:len(good)-2], good + good,
	}
	for _, l := range [][]uint32{{0, 1, 3}, {3, 0, 3}, {3, 1, 0}, {0, 0, 0}, {65, 1, 3}, {3, 65, 3}, {3, 1, 65536}, {1 << 31, 1 << 31, 3}, {1<<32 - 1, 1, 3}, {3, 1<<32 - 1, 3}, {3, 1, 1<<32 - 1}, {3, 1 << 31, 3}, {4, 1, 3}, {3, 2, 3}, {2, 1, 3}, {64, 64, 65535}, {3, 1, 2}} {
		bad = append(bad, head+"\n"+size(l...)+row, head+"\n"+size(l...), head+"\n"+size(l...)+strings.Repeat("\x00", 100), head+"\n"+size(l...)+strings.Repeat("\xff", 5000))
	}
	for k := range 256 {
		if k != 1 {
			bad = append(bad, head+"\n"+size(3, 1, 3)+string([]byte{byte(k), 106}), head+"\n"+size(3, 1, 3)+string([]byte{byte(k)})+strings.Repeat("\x00", 100))
		}
	}
	// The parameters 0 and 2 give the same residuals with more bits; the last bit is none of a code.
	bad = append(bad, head+"\n"+size(3, 1, 3)+"\x00"+string(packed("10111010")), head+"\n"+size(3, 1, 3)+"\x02"+string(packed("001011001")), head+"\n"+size(3, 1, 3)+"\x01"+string(packed("01101011")))
	for _, s := range bad {
		if f, code := frame.Decode([]byte(s)); code != api.ErrSyntax || !isEmpty(f) {
			t.Errorf("Decode(%.99q) = %.99s, %d", s, fmt.Sprint(f), code)
		}
	}
	if f, code := frame.Decode(nil); code != api.ErrSyntax || !isEmpty(f) {
		t.Errorf("Decode(nil) = %v, %d", f, code)
	}
}

// P15.5: 2^20 bytes may be read, whatever they are; more are too long.
func TestDecodeLong(t *testing.T) {
	if frame.MaxFile != 1048576 {
		t.Fatalf("MaxFile is %d", frame.MaxFile)
	}
	good := string(fileOf(example()))
	top := "FRAME1\n\n\x00\x00\x00\x40\x00\x00\x00\x40\x00\x00\xff\xff"
	for _, part := range []string{"\x00", "\xff", "\n", "a b\n", "a", "a \n"} {
		for _, begin := range []string{"", good, "FRAME1\n", top} {
			s := begin + strings.Repeat(part, frame.MaxFile/len(part))
			for _, n := range []int{frame.MaxFile - 1, frame.MaxFile, frame.MaxFile + 1} {
				b := []byte(s + "xx")[:n]
				want := api.ErrSyntax
				if n > frame.MaxFile {
					want = api.ErrLong
				}
				if f, code := frame.Decode(b); code != want || !isEmpty(f) {
					t.Errorf("Decode of %d bytes: %d, want %d", n, code, want)
				}
			}
		}
	}
}
