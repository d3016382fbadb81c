package word

// fourBits holds what a register of i becomes when four bits have gone out of
// it to the right. Half a byte at a time: a table for whole bytes would have to
// be made anew in each call, which is dear for short rows of bytes.
var fourBits = [16]uint32{
	0x00000000, 0x105EC76F, 0x20BD8EDE, 0x30E349B1,
	0x417B1DBC, 0x5125DAD3, 0x61C69362, 0x7198540D,
	0x82F63B78, 0x92A8FC17, 0xA24BB5A6, 0xB21572C9,
	0xC38D26C4, 0xD3D3E1AB, 0xE330A81A, 0xF36E6F75,
}

// CRC is CRC-32C.
func CRC(b []byte) uint32 { return More(0, b) }

// More goes on from a sum.
func More(sum uint32, b []byte) uint32 {
	register := ^sum
	for _, x := range b {
		register ^= uint32(x)
		register = register>>4 ^ fourBits[register&15]
		register = register>>4 ^ fourBits[register&15]
	}
	return ^register
}
