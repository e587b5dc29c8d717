package wire

import (
	"slices"
	"testing"

	"firn/api"
)

func TestReply(t *testing.T) {
	for _, c := range []struct {
		told    api.Errno
		numbers []int
		want    string
	}{
		{api.OK, []int{5, 6}, "\x00\x00\x02\x00\x00\x00\x05\x00\x00\x00\x06"},
		{api.OK, nil, "\x00\x00\x00"},
		{api.ErrPlace, nil, "\x0a\x00\x00"},
		{api.OK, []int{0x010203}, "\x00\x00\x01\x00\x01\x02\x03"},
		{api.OK, []int{api.MaxVolume}, "\x00\x00\x01\x00\x0f\x42\x40"},
	} {
		if got := Reply(c.told, c.numbers); got != c.want {
			t.Errorf("Reply(%d, %d) = %q, want %q", c.told, c.numbers, got, c.want)
		}
	}
}

func TestReplyIsReadBack(t *testing.T) {
	for told := api.OK; told <= api.ErrPlace; told++ {
		for _, count := range []int{0, 1, 255, 256, 999} {
			numbers := make([]int, count)
			for i := range numbers {
				numbers[i] = i * 1001
			}
			list, e, is := Numbers(Reply(told, numbers))
			if !slices.Equal(list, numbers) || e != told || is != api.OK {
				t.Errorf("%d and %d numbers: %d, %d, %d numbers", told, count, is, e, len(list))
			}
		}
	}
}
