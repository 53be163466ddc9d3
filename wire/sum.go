package wire

// halfSums holds what CRC-32 (the reversed polynomial 0xEDB88320) makes of each half of a byte.
var halfSums = [16]uint32{
	0x00000000, 0x1db71064, 0x3b6e20c8, 0x26d930ac, 0x76dc4190, 0x6b6b51f4, 0x4db26158, 0x5005713c,
	0xedb88320, 0xf00f9344, 0xd6d6a3e8, 0xcb61b38c, 0x9b64c2b0, 0x86d3d2d4, 0xa00ae278, 0xbdbdf21c,
}

// checkSum is the CRC-32 of the bytes of a text.
func checkSum(s string) uint32 {
	sum := ^uint32(0)
	for i := range len(s) {
		sum ^= uint32(s[i])
		sum = sum>>4 ^ halfSums[sum&15]
		sum = sum>>4 ^ halfSums[sum&15]
	}
	return ^sum
}

// sumText is the check sum of a text as it stands behind it, the low byte first: only so is every change within 32 bits found, those that reach into the sum too.
func sumText(s string) string {
	sum := checkSum(s)
	return string([]byte{byte(sum), byte(sum >> 8), byte(sum >> 16), byte(sum >> 24)})
}
