package wire

// numberSize is how many bytes a number has in a frame and in a reply.
const numberSize = 4

func appendNumber(to []byte, n uint32) []byte {
	return append(to, byte(n>>24), byte(n>>16), byte(n>>8), byte(n))
}

// numberAt reads the number with the given index in s, which is nothing but numbers.
func numberAt(s string, index int) uint32 {
	b := s[index*numberSize:][:numberSize]
	return uint32(b[0])<<24 | uint32(b[1])<<16 | uint32(b[2])<<8 | uint32(b[3])
}
