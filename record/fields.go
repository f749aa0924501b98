package record

// fields gives the parts of a text one by one. Where one is not there whole it is empty, and short says so from then on, so that it is asked once, at the end.
type fields struct {
	rest  string
	short bool
}

func (f *fields) bytes(size int) string {
	if f.short || size > len(f.rest) {
		f.short = true
		return ""
	}
	part := f.rest[:size]
	f.rest = f.rest[size:]
	return part
}

// number reads a number whose highest byte comes first.
func (f *fields) number(size int) int {
	part := f.bytes(size)
	n := 0
	for i := range len(part) {
		n = n<<8 | int(part[i])
	}
	return n
}

// text reads bytes that have their length ahead of them, in lengthSize bytes.
func (f *fields) text(lengthSize int) string {
	return f.bytes(f.number(lengthSize))
}

func (f *fields) areDone() bool {
	return !f.short && f.rest == ""
}
