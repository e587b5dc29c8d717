package wire

import "firn/api"

// replyHead is how many bytes a reply has ahead of its numbers: its error, and their count.
const replyHead = 3

// Reply writes an error and numbers as a reply.
func Reply(told api.Errno, numbers []int) string {
	reply := []byte{byte(told), byte(len(numbers) >> 8), byte(len(numbers))}
	for _, n := range numbers {
		reply = appendNumber(reply, uint32(n))
	}
	return string(reply)
}

// Numbers tells a reply's numbers and its error; and whether it is a reply.
func Numbers(reply string) ([]int, api.Errno, api.Errno) {
	if len(reply) < replyHead {
		return nil, api.OK, api.ErrFrame
	}
	told, numbers := api.Errno(reply[0]), reply[replyHead:]
	count := int(reply[1])<<8 | int(reply[2])
	if told > api.ErrPlace || len(numbers) != count*numberSize {
		return nil, api.OK, api.ErrFrame
	}
	list := make([]int, count)
	for i := range list {
		n := numberAt(numbers, i)
		if n > api.MaxVolume {
			return nil, api.OK, api.ErrFrame
		}
		list[i] = int(n)
	}
	return list, told, api.OK
}
