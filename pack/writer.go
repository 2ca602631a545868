package pack

import (
	"slices"

	"timbre/api"
	"timbre/bits"
)

// Writer gathers bytes.
type Writer struct {
	out []byte
}

// New begins with no bytes.
func New() *Writer { return &Writer{} }

// Uint writes a varint, in its shortest form.
func (w *Writer) Uint(x uint64) {
	for x >= more {
		w.out = append(w.out, byte(x)|more)
		x >>= 7
	}
	w.out = append(w.out, byte(x))
}

// Int writes a signed number.
func (w *Writer) Int(x int64) { w.Uint(zigzag(x)) }

// Float writes a float's eight bytes.
func (w *Writer) Float(f float64) { w.fixed(bits.Bits(f), floatBytes) }

// Complex writes a complex number's sixteen bytes.
func (w *Writer) Complex(c complex128) {
	w.Float(real(c))
	w.Float(imag(c))
}

// Narrow writes a complex64's eight bytes.
func (w *Writer) Narrow(c complex64) {
	w.fixed(uint64(bitsOfHalf(real(c))), halfBytes)
	w.fixed(uint64(bitsOfHalf(imag(c))), halfBytes)
}

// Text writes a text with its length ahead of it.
func (w *Writer) Text(s string) {
	w.Uint(uint64(len(s)))
	w.out = append(w.out, s...)
}

// List writes a list of complex numbers; ErrLimit, and nothing is written, if it is too long.
func (w *Writer) List(list []complex128) error { return writeList(w, list, w.Complex) }

// Floats writes a list of floats; ErrLimit, and nothing is written, if it is too long.
func (w *Writer) Floats(list []float64) error { return writeList(w, list, w.Float) }

// Len tells how many bytes there are.
func (w *Writer) Len() int { return len(w.out) }

// Out is the bytes: a copy, since the Writer may be written on.
func (w *Writer) Out() []byte { return slices.Clone(w.out) }

// writeList writes the number of the elements, and each of them by write.
func writeList[T float64 | complex128](w *Writer, list []T, write func(T)) error {
	if len(list) > api.MaxList {
		return api.ErrLimit
	}
	w.Uint(uint64(len(list)))
	for _, element := range list {
		write(element)
	}
	return nil
}

// fixed writes the low bytes of b, the lowest first.
func (w *Writer) fixed(b uint64, count int) {
	for range count {
		w.out = append(w.out, byte(b))
		b >>= 8
	}
}
