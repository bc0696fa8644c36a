package entry

import "ramekin/code"

// part is some of a T's bytes: how they are put behind others, and how they are taken back into a T.
type part[T any] struct {
	put  func(b []byte, from *T) []byte
	take func(r *code.Reader, to *T)
}

// layout is a T's parts, in the order of their bytes. Both ways go by the one list, so that neither can stray from the other.
type layout[T any] []part[T]

// write answers b with v's parts behind it.
func (l layout[T]) write(b []byte, v T) []byte {
	for _, p := range l {
		b = p.put(b, &v)
	}
	return b
}

// read takes all parts; where bytes lack, what is read is worth nothing, and r tells that.
func (l layout[T]) read(r *code.Reader) T {
	var v T
	for _, p := range l {
		p.take(r, &v)
	}
	return v
}

// number is a number whole.
func number[T any](at func(*T) *int) part[T] {
	return part[T]{
		put:  func(b []byte, from *T) []byte { return code.Int(b, *at(from)) },
		take: func(r *code.Reader, to *T) { *at(to) = r.Int() },
	}
}

// low is a number's lowest eight bits alone.
func low[T any](at func(*T) *int) part[T] {
	return part[T]{
		put:  func(b []byte, from *T) []byte { return code.Byte(b, *at(from)) },
		take: func(r *code.Reader, to *T) { *at(to) = r.Byte() },
	}
}

// several are bytes as they stand.
func several[T any](at func(*T) []byte) part[T] {
	return part[T]{
		put: func(b []byte, from *T) []byte {
			for _, v := range at(from) {
				b = code.Byte(b, int(v))
			}
			return b
		},
		take: func(r *code.Reader, to *T) {
			room := at(to)
			for i := range room {
				room[i] = byte(r.Byte())
			}
		},
	}
}
