// Package number: numbers as bytes, the highest byte first, as each layer lays them.
package number

// Bytes: n in size bytes; of a greater n its lowest ones.
func Bytes(n, size int) []byte {
	b := make([]byte, max(size, 0))
	for k := range b {
		b[len(b)-1-k] = byte(n >> (8 * k))
	}
	return b
}

// Of: the number that b holds; of more than eight bytes that of the last eight.
func Of(b []byte) int {
	n := 0
	for _, x := range b {
		n = n<<8 | int(x)
	}
	return n
}
