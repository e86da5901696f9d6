package crc

// registerBits is how many bits the register has.
const registerBits = 32

// Join tells the checksum of x with y behind it, from those of x and y and the length of y.
func Join(a, b uint32, n int) uint32 {
	if n < 0 {
		return 0
	}
	return feedZeros(a, n) ^ b
}

// feedZeros steps the register through n bytes 0, by n's binary digits: n itself may be far too great to count through.
func feedZeros(r uint32, n int) uint32 {
	// What as many zero bytes as the digit stands for make of each bit of a register.
	images := imagesOfOneZero()
	for n > 0 {
		if n&1 == 1 {
			r = pass(images, r)
		}
		images = twice(images)
		n >>= 1
	}
	return r
}

// imagesOfOneZero tells what one zero byte makes of each bit of a register.
func imagesOfOneZero() [registerBits]uint32 {
	var images [registerBits]uint32
	for i := range images {
		images[i] = feed(1<<i, []byte{0})
	}
	return images
}

// pass tells what becomes of a whole register: zero bytes act on each of its bits by itself.
func pass(images [registerBits]uint32, r uint32) uint32 {
	var passed uint32
	for i := range images {
		if r>>i&1 == 1 {
			passed ^= images[i]
		}
	}
	return passed
}

// twice tells what becomes of each bit behind as many zero bytes again.
func twice(images [registerBits]uint32) [registerBits]uint32 {
	var doubled [registerBits]uint32
	for i := range doubled {
		doubled[i] = pass(images, images[i])
	}
	return doubled
}
