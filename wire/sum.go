// Package wire: how numbers, rising lists and sums stand in files.
package wire

const (
	sumBytes = 4
	modulus  = 65521
)

func sum(list []byte) [sumBytes]byte {
	a, b := 1, 0
	for _, c := range list {
		a = (a + int(c)) % modulus
		b = (b + a) % modulus
	}
	return [sumBytes]byte{byte(b >> 8), byte(b), byte(a >> 8), byte(a)}
}
