package haul

import "haul/api"

// version: tag 0 stands for none, as no version has it.
type version struct {
	tag, total int
}

func (v version) isNone() bool {
	return v.tag == 0
}

// fair tells whether these two numbers, which may be any, are a version's.
func (v version) fair() bool {
	if v.tag < 1 || v.tag > api.MaxTag {
		return false
	}
	return v.total >= 0 && v.total <= api.MaxTotal
}

// blockLen tells how many bytes block k has, where a block has size bytes at most: none, if it is not there.
func (v version) blockLen(k, size int) int {
	left := v.total - k*size
	if left < 0 {
		return 0
	}
	return atMost(left, size)
}

func atMost(n, most int) int {
	if n > most {
		return most
	}
	return n
}
