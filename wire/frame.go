package wire

import "firn/api"

// Encode writes a command as a frame.
func Encode(c api.Command) (string, api.Errno) {
	fields := fieldsOf(c.Kind)
	if fields == nil {
		return "", api.ErrFrame
	}
	frame := []byte{byte(c.Kind)}
	for _, f := range fields {
		n := *f.of(&c)
		if !f.allows(n) {
			return "", api.ErrFrame
		}
		frame = appendNumber(frame, uint32(n))
	}
	if hasMore(c, fields) {
		return "", api.ErrFrame
	}
	return string(frame), api.OK
}

// hasMore tells whether a command has a number that is none of its fields and is not 0.
func hasMore(c api.Command, fields []field) bool {
	c.Kind = 0
	for _, f := range fields {
		*f.of(&c) = 0
	}
	return c != api.Command{}
}

// Decode reads the command of a frame.
func Decode(frame string) (api.Command, api.Errno) {
	if frame == "" {
		return api.Command{}, api.ErrFrame
	}
	c := api.Command{Kind: int(frame[0])}
	fields, numbers := fieldsOf(c.Kind), frame[1:]
	if fields == nil || len(numbers) != len(fields)*numberSize {
		return api.Command{}, api.ErrFrame
	}
	for i, f := range fields {
		n := int(numberAt(numbers, i))
		if !f.allows(n) {
			return api.Command{}, api.ErrFrame
		}
		*f.of(&c) = n
	}
	return c, api.OK
}
