package firn_test

import (
	"math"
	"slices"
	"strings"
	"testing"

	"firn/api"
	"firn/firn"
)

// reply writes one as the document says.
func reply(told byte, numbers ...int) string {
	s := string([]byte{told, byte(len(numbers) >> 8), byte(len(numbers))})
	for _, n := range numbers {
		s += four(uint32(n))
	}
	return s
}

func wantReply(t *testing.T, s string, numbers []int, told api.Errno) {
	t.Helper()
	list, e, is := firn.Numbers(s)
	if !slices.Equal(list, numbers) || e != told || is != api.OK {
		t.Errorf("Numbers(%.60q) = %.60v, %d, %d, want %.60v, %d, OK", s, list, e, is, numbers, told)
	}
}

func wantNoReply(t *testing.T, s string) {
	t.Helper()
	list, e, is := firn.Numbers(s)
	if len(list) != 0 || e != api.OK || is != api.ErrFrame {
		t.Errorf("Numbers(%.60q) = %.60v, %d, %d, want ErrFrame and nothing ahead", s, list, e, is)
	}
}

func TestFirstExampleReply(t *testing.T) {
	wantReply(t, "\x00\x00\x02\x00\x00\x00\x05\x00\x00\x00\x06", []int{5, 6}, api.OK)
}

func TestErrorsOfReplies(t *testing.T) {
	for told := range 256 {
		for _, numbers := range [][]int{nil, {0}, {3, 1, 2}} {
			s := reply(byte(told), numbers...)
			if told <= 10 {
				wantReply(t, s, numbers, api.Errno(told))
			} else {
				wantNoReply(t, s)
			}
		}
	}
}

func TestNumbersOfReplies(t *testing.T) {
	for _, n := range []int{0, 1, 255, 256, 0x010203, 65535, 65536, 999999, 1000000} {
		wantReply(t, reply(0, n), []int{n}, api.OK)
		wantReply(t, reply(0, n, 1, n), []int{n, 1, n}, api.OK)
	}
	for _, n := range []int{1000001, 1000256, 1 << 24, 1<<24 + 1, 1 << 31, 1<<31 + 1, math.MaxUint32} {
		for _, s := range []string{reply(0, n), reply(0, n, 1, 2), reply(0, 1, n, 2), reply(0, 1, 2, n), reply(10, 1, n)} {
			wantNoReply(t, s)
		}
	}
}

func TestCountsOfReplies(t *testing.T) {
	for _, count := range []int{0, 1, 2, 255, 256, 257, 0x0201, 999, 65535} {
		numbers := make([]int, count)
		var s strings.Builder
		s.Write([]byte{4, byte(count >> 8), byte(count)})
		for i := range numbers {
			numbers[i] = i * 15
			s.WriteString(four(uint32(i * 15)))
		}
		whole := s.String()
		wantReply(t, whole, numbers, api.ErrTube)
		wantNoReply(t, whole[:len(whole)-1])
		wantNoReply(t, whole+"\x00")
		wantNoReply(t, whole+four(1))
		if count > 0 {
			wantNoReply(t, whole[:len(whole)-4])
		}
	}
}

func TestRepliesOfWrongLength(t *testing.T) {
	whole := reply(0, 5, 6, 7)
	for i := range len(whole) {
		wantNoReply(t, whole[:i])
	}
	for _, s := range []string{
		"", "\x00", "\x00\x00", "\x0a\x00", "\x00\x00\x00\x00", "\x00\x00\x01", "\x00\x01\x00", "\x00\xff\xff",
		// The count's bytes the wrong way round; a count of bytes; more numbers than a count can tell.
		"\x00\x01\x00" + four(1), "\x00\x00\x04" + four(1), "\x00\x00\x00" + strings.Repeat(four(1), 65536),
		strings.Repeat("\x00", 9000000),
	} {
		wantNoReply(t, s)
	}
}

func TestListsAreNewMemory(t *testing.T) {
	s := reply(0, 5, 6)
	first, _, _ := firn.Numbers(s)
	second, _, _ := firn.Numbers(s)
	first[0], first[1] = 8, 9
	first = append(first[:1], 10)
	if !slices.Equal(second, []int{5, 6}) || !slices.Equal(first, []int{8, 10}) {
		t.Errorf("two lists share memory: %v, %v", first, second)
	}
	wantReply(t, s, []int{5, 6}, api.OK)
}

func FuzzNumbers(f *testing.F) {
	f.Add(reply(0))
	f.Add(reply(10, 1000000, 0))
	f.Fuzz(func(t *testing.T, s string) {
		list, told, is := firn.Numbers(s)
		if is != api.OK {
			wantNoReply(t, s)
		} else if reply(byte(told), list...) != s {
			t.Errorf("Numbers(%q) = %v, %d", s, list, told)
		}
	})
}
