// Package span reads the text of a range and tells the head that it has for a version.
package span

import "haul/api"

// Statuses of a head.
const (
	statusWhole = 200
	statusPart  = 206
	statusNone  = 416
)

// Kinds of ranges. The first is what every text that is no range counts as.
const (
	whole    = 0
	fromTo   = 1
	fromOn   = 2
	lastOnes = 3
)

const prefix = "bytes="

// Range is a range that was read. It stands in for the text, which may be of any length and is the caller's.
type Range struct {
	kind, first, last int
}

// Read reads the text of a range. There is no wrong text: what is no range asks for the whole object.
func Read(text string) Range {
	if len(text) < len(prefix) || text[:len(prefix)] != prefix {
		return Range{}
	}
	numbers := text[len(prefix):]
	dash := findDash(numbers)
	if dash < 0 {
		return Range{}
	}
	return between(numbers[:dash], numbers[dash+1:])
}

// findDash looks no further than a first number may reach, however long the text is.
func findDash(text string) int {
	for i := 0; i < len(text) && i <= api.MaxDigits; i++ {
		if text[i] == '-' {
			return i
		}
	}
	return -1
}

// between makes a range of what stands on either side of the dash.
func between(left, right string) Range {
	first, leftCounts := number(left)
	last, rightCounts := number(right)
	switch {
	case leftCounts && rightCounts && first <= last:
		return Range{kind: fromTo, first: first, last: last}
	case leftCounts && right == "":
		return Range{kind: fromOn, first: first}
	case left == "" && rightCounts:
		return Range{kind: lastOnes, last: last}
	}
	return Range{}
}

// number takes digits alone: strconv would let a sign through.
func number(text string) (int, bool) {
	if len(text) < 1 || len(text) > api.MaxDigits {
		return 0, false
	}
	n := 0
	for i := 0; i < len(text); i++ {
		if text[i] < '0' || text[i] > '9' {
			return 0, false
		}
		n = n*10 + int(text[i]-'0')
	}
	return n, true
}

// Head tells the head for the version with this tag and total.
func (r Range) Head(tag, total int) api.Head {
	switch r.kind {
	case fromTo:
		return part(tag, total, r.first, r.last+1)
	case fromOn:
		return part(tag, total, r.first, total)
	case lastOnes:
		return part(tag, total, total-atMost(r.last, total), total)
	}
	return api.Head{Status: statusWhole, Tag: tag, Total: total, Len: total}
}

// part tells the head for the bytes ahead of end. One rule serves for all that can't be given out:
// a start at or beyond the total, the last 0 bytes, and an object without bytes all leave nothing here.
func part(tag, total, from, end int) api.Head {
	end = atMost(end, total)
	if from >= end {
		return api.Head{Status: statusNone, Tag: tag, Total: total}
	}
	return api.Head{Status: statusPart, Tag: tag, Total: total, From: from, Len: end - from}
}

func atMost(n, most int) int {
	if n > most {
		return most
	}
	return n
}
