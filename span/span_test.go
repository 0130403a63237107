package span

import (
	"regexp"
	"strconv"
	"strings"
	"testing"

	"haul/api"
)

func check(t *testing.T, text string, tag, total int, want api.Head) {
	t.Helper()
	if h := Read(text).Head(tag, total); h != want {
		t.Errorf("head of %.60q, total %d: %+v, want %+v", text, total, h, want)
	}
}

func TestHeadsOfRanges(t *testing.T) {
	for _, c := range []struct {
		text                     string
		total, status, from, len int
	}{
		{"bytes=2-6", 10, 206, 2, 5},
		{"bytes=0-0", 10, 206, 0, 1},
		{"bytes=0-9", 10, 206, 0, 10},
		{"bytes=9-9", 10, 206, 9, 1},
		{"bytes=9-10", 10, 206, 9, 1},
		{"bytes=3-999999", 1000, 206, 3, 997},
		{"bytes=10-10", 10, 416, 0, 0},
		{"bytes=11-12", 10, 416, 0, 0},
		{"bytes=0-0", 0, 416, 0, 0},
		{"bytes=000002-000006", 10, 206, 2, 5},
		{"bytes=0-", 10, 206, 0, 10},
		{"bytes=9-", 10, 206, 9, 1},
		{"bytes=10-", 10, 416, 0, 0},
		{"bytes=999999-", 1000, 416, 0, 0},
		{"bytes=0-", 0, 416, 0, 0},
		{"bytes=-3", 10, 206, 7, 3},
		{"bytes=-1", 1, 206, 0, 1},
		{"bytes=-10", 10, 206, 0, 10},
		{"bytes=-11", 10, 206, 0, 10},
		{"bytes=-999999", 1000, 206, 0, 1000},
		{"bytes=-0", 10, 416, 0, 0},
		{"bytes=-000000", 10, 416, 0, 0},
		{"bytes=-3", 0, 416, 0, 0},
	} {
		check(t, c.text, 7, c.total, api.Head{Status: c.status, Tag: 7, Total: c.total, From: c.from, Len: c.len})
	}
}

func TestTextsThatAreNoRanges(t *testing.T) {
	for _, text := range []string{
		"", "b", "bytes", "bytes=", "bytes=-", "bytes=--", "bytes=--1", "bytes=1", "bytes=12345678",
		"bytes=6-2", "bytes=1-0", "bytes=000010-9", "bytes=1-2-", "bytes=1-2-3", "bytes=1--2", "bytes=1-2,4-5",
		"bytes=1234567-", "bytes=0000001-2", "bytes=1-1234567", "bytes=1-0000002", "bytes=-1234567", "bytes=-0000003",
		" bytes=1-2", "bytes=1-2 ", "bytes= 1-2", "bytes=1 -2", "bytes=1- 2", "bytes =1-2", "Bytes=1-2", "BYTES=1-2",
		"bytes=+1-2", "bytes=1-+2", "bytes=-+2", "bytes=0x1-2", "bytes=1_0-20", "bytes=1.-2", "bytes=a-b", "bytes=1-b", "bytes=a-2", "bytes=-b",
		"bytes:1-2", "1-2", "-", "byte=1-2", "bytes==1-2", "bytes=1-2\x00", "bytes=\x00-2", "bytes=1-2\n",
		"bytes=\u0661-\u0662", "bytes=1\u20132", "bytes=\xff-\xfe", "\xff\xfe", "bytes=/-", "bytes=-/", "bytes=0-/", "bytes=:-", "bytes=-:", "bytes=0-:",
		strings.Repeat("bytes=", 1<<18), "bytes=" + strings.Repeat("0", 1<<20) + "-", "bytes=0-" + strings.Repeat("9", 1<<20), "bytes=" + strings.Repeat("-", 1<<20),
	} {
		for _, total := range []int{0, 1, 10, api.MaxTotal} {
			check(t, text, api.MaxTag, total, api.Head{Status: 200, Tag: api.MaxTag, Total: total, Len: total})
		}
	}
}

var (
	closedRange = regexp.MustCompile(`\Abytes=([0-9]{1,6})-([0-9]{1,6})\z`)
	openRange   = regexp.MustCompile(`\Abytes=([0-9]{1,6})-\z`)
	lastRange   = regexp.MustCompile(`\Abytes=-([0-9]{1,6})\z`)
)

// slowHead goes through the object byte by byte, to be as unlike Read and Head as can be.
func slowHead(text string, tag, total int) api.Head {
	number := func(s string) int { n, _ := strconv.Atoi(s); return n }
	asked := func(i int) bool { return false }
	if m := closedRange.FindStringSubmatch(text); m != nil && number(m[1]) <= number(m[2]) {
		asked = func(i int) bool { return number(m[1]) <= i && i <= number(m[2]) }
	} else if m := openRange.FindStringSubmatch(text); m != nil {
		asked = func(i int) bool { return number(m[1]) <= i }
	} else if m := lastRange.FindStringSubmatch(text); m != nil {
		asked = func(i int) bool { return total-i <= number(m[1]) }
	} else {
		return api.Head{Status: 200, Tag: tag, Total: total, Len: total}
	}
	h := api.Head{Status: 416, Tag: tag, Total: total}
	for i := total - 1; i >= 0; i-- {
		if asked(i) {
			h.Status, h.From, h.Len = 206, i, h.Len+1
		}
	}
	return h
}

func TestAllShortTexts(t *testing.T) {
	texts := []string{""}
	for range 5 {
		for _, text := range texts {
			for _, total := range []int{0, 1, 2, 9, 10, 13} {
				check(t, "bytes="+text, 1, total, slowHead("bytes="+text, 1, total))
			}
		}
		longer := []string{}
		for _, text := range texts {
			for _, c := range "0129-+ b" {
				longer = append(longer, text+string(c))
			}
		}
		texts = longer
	}
}

func TestAllSmallNumbers(t *testing.T) {
	for a := range 15 {
		for b := range 15 {
			for total := range 13 {
				for _, text := range []string{
					"bytes=" + strconv.Itoa(a) + "-" + strconv.Itoa(b),
					"bytes=" + strconv.Itoa(a) + "-",
					"bytes=-" + strconv.Itoa(b),
				} {
					check(t, text, 2, total, slowHead(text, 2, total))
				}
			}
		}
	}
}
