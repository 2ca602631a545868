package pack

import (
	"math"
	"slices"

	"timbre/api"
	"timbre/bits"
)

// Reader reads bytes from the front; a refused read doesn't move it.
type Reader struct {
	bytes []byte
	at    int // how many of them have been read
}

// Read stands at the beginning of b, of which it keeps a copy.
func Read(b []byte) *Reader { return &Reader{bytes: slices.Clone(b)} }

// Uint reads a varint, which must have its shortest form.
func (r *Reader) Uint() (uint64, error) {
	var x uint64
	for i, b := range r.bytes[r.at:] {
		if i == 9 && b > 1 { // nine bytes hold 63 bits
			return 0, api.ErrVarint
		}
		x |= uint64(b%more) << (7 * i)
		if b < more {
			if b == 0 && i > 0 {
				return 0, api.ErrVarint
			}
			r.at += i + 1
			return x, nil
		}
	}
	return 0, api.ErrShort
}

// Upto reads a varint of a number that is at most most.
func (r *Reader) Upto(most int) (int, error) {
	start := r.at
	x, err := r.Uint()
	if err != nil {
		return 0, err
	}
	if most < 0 || x > uint64(most) {
		r.at = start
		return 0, api.ErrLimit
	}
	return int(x), nil
}

// Int reads a signed number.
func (r *Reader) Int() (int64, error) {
	x, err := r.Uint()
	return zagzig(x), err
}

// Float reads a float.
func (r *Reader) Float() (float64, error) {
	if r.Left() < floatBytes {
		return 0, api.ErrShort
	}
	b := r.fixed(0, floatBytes)
	if strangeFloat(b) {
		return 0, api.ErrNumber
	}
	r.at += floatBytes
	return bits.Of(b), nil
}

// Complex reads a complex number.
func (r *Reader) Complex() (complex128, error) {
	if r.Left() < complexBytes {
		return 0, api.ErrShort
	}
	re, im := r.fixed(0, floatBytes), r.fixed(floatBytes, floatBytes)
	if strangeFloat(re) || strangeFloat(im) {
		return 0, api.ErrNumber
	}
	r.at += complexBytes
	return complex(bits.Of(re), bits.Of(im)), nil
}

// Narrow reads a complex64.
func (r *Reader) Narrow() (complex64, error) {
	if r.Left() < narrowBytes {
		return 0, api.ErrShort
	}
	re, im := uint32(r.fixed(0, halfBytes)), uint32(r.fixed(halfBytes, halfBytes))
	if strangeHalf(re) || strangeHalf(im) {
		return 0, api.ErrNumber
	}
	r.at += narrowBytes
	return complex(math.Float32frombits(re), math.Float32frombits(im)), nil
}

// Text reads a text of at most most bytes.
func (r *Reader) Text(most int) (string, error) {
	start := r.at
	size, err := r.Upto(most)
	if err != nil {
		return "", err
	}
	if r.Left() < size {
		r.at = start
		return "", api.ErrShort
	}
	s := string(r.bytes[r.at : r.at+size])
	r.at += size
	return s, nil
}

// List reads a list of complex numbers.
func (r *Reader) List() ([]complex128, error) { return readList(r, complexBytes, r.Complex) }

// Floats reads a list of floats.
func (r *Reader) Floats() ([]float64, error) { return readList(r, floatBytes, r.Float) }

// At tells how many bytes have been read.
func (r *Reader) At() int { return r.at }

// Left tells how many bytes are left.
func (r *Reader) Left() int { return len(r.bytes) - r.at }

// Done answers ErrTail where bytes are left.
func (r *Reader) Done() error {
	if r.Left() > 0 {
		return api.ErrTail
	}
	return nil
}

// readList reads the number of the elements, and each of them, of so many bytes, by read.
func readList[T float64 | complex128](r *Reader, size int, read func() (T, error)) ([]T, error) {
	start := r.at
	count, err := r.Upto(api.MaxList)
	if err != nil {
		return nil, err
	}
	list := make([]T, 0, min(count, r.Left()/size)) // no more room than bytes are there for
	for range count {
		element, err := read()
		if err != nil {
			r.at = start
			return nil, err
		}
		list = append(list, element)
	}
	return list, nil
}

// fixed is the number of so many bytes, the lowest first, from so far behind the place where the reader stands.
func (r *Reader) fixed(behind, count int) uint64 {
	var b uint64
	for i := range count {
		b |= uint64(r.bytes[r.at+behind+i]) << (8 * i)
	}
	return b
}
