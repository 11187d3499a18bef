package scan

import (
	"math/bits"
	"slices"

	"abugida/api"
)

const (
	farthest = 10000 // how far a bitmap may be to the left and to the top
	border   = 10001 // where it ends at last
)

func isEmpty(b api.Bitmap) bool {
	return b.Left == 0 && b.Top == 0 && b.Width == 0 && b.Height == 0 && len(b.Rows) == 0
}

func isSide(from, size int) bool {
	return size >= 1 && size <= most && from >= -farthest && from <= border-size
}

// Right reports whether b is right.
func Right(b api.Bitmap) bool {
	if isEmpty(b) {
		return true
	}
	if !isSide(b.Left, b.Width) || !isSide(b.Top, b.Height) || len(b.Rows) != b.Height {
		return false
	}
	for _, row := range b.Rows {
		if row>>b.Width != 0 {
			return false
		}
	}
	return true
}

// Get reports whether b has the pixel.
func Get(b api.Bitmap, x, y int) bool {
	if !Right(b) || x < b.Left || x >= b.Left+b.Width || y < b.Top || y >= b.Top+b.Height {
		return false
	}
	return b.Rows[y-b.Top]>>(x-b.Left)&1 == 1
}

// Move returns b at another place.
func Move(b api.Bitmap, dx, dy int) api.Bitmap {
	if !Right(b) || isEmpty(b) {
		return api.Bitmap{}
	}
	b.Left += dx
	b.Top += dy
	if !Right(b) {
		return api.Bitmap{}
	}
	b.Rows = slices.Clone(b.Rows)
	return b
}

func copyOf(b api.Bitmap) api.Bitmap {
	b.Rows = slices.Clone(b.Rows)
	return b
}

// Or returns the bitmap that has the pixels of both.
func Or(a, b api.Bitmap) (api.Bitmap, api.Errno) {
	switch {
	case !Right(a) || !Right(b):
		return api.Bitmap{}, api.ErrArg
	case isEmpty(a):
		return copyOf(b), api.OK
	case isEmpty(b):
		return copyOf(a), api.OK
	}
	c := api.Bitmap{Left: min(a.Left, b.Left), Top: min(a.Top, b.Top)}
	c.Width = max(a.Left+a.Width, b.Left+b.Width) - c.Left
	c.Height = max(a.Top+a.Height, b.Top+b.Height) - c.Top
	if c.Width > most || c.Height > most {
		return api.Bitmap{}, api.ErrRange
	}
	c.Rows = make([]uint64, c.Height)
	for _, from := range []api.Bitmap{a, b} {
		for k, row := range from.Rows {
			c.Rows[from.Top-c.Top+k] |= row << (from.Left - c.Left)
		}
	}
	return c, api.OK
}

// Trim returns the bitmap with the same pixels that has one in its first and last row and column.
func Trim(b api.Bitmap) api.Bitmap {
	if !Right(b) {
		return api.Bitmap{}
	}
	var all uint64
	first, last := len(b.Rows), -1
	for k, row := range b.Rows {
		if row != 0 {
			all |= row
			first, last = min(first, k), k
		}
	}
	if all == 0 {
		return api.Bitmap{}
	}
	left := bits.TrailingZeros64(all)
	c := api.Bitmap{Left: b.Left + left, Top: b.Top + first, Width: bits.Len64(all) - left, Height: last - first + 1}
	for _, row := range b.Rows[first : last+1] {
		c.Rows = append(c.Rows, row>>left)
	}
	return c
}

// Same reports whether a and b are equal in all fields.
func Same(a, b api.Bitmap) bool {
	return a.Left == b.Left && a.Top == b.Top && a.Width == b.Width && a.Height == b.Height && slices.Equal(a.Rows, b.Rows)
}
