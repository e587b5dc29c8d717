package firn_test

import (
	"math"
	"math/rand"
	"strings"
	"testing"

	"firn/api"
	"firn/firn"
)

// four writes a number in 4 bytes, the high one first.
func four(n uint32) string {
	return string([]byte{byte(n >> 24), byte(n >> 16), byte(n >> 8), byte(n)})
}

// part is a number of a command: where it lies, and what it may be.
type part struct {
	name            string
	least, greatest int
	ordinary        int
	at              func(c *api.Command) *int
}

func atN(c *api.Command) *int { return &c.N }

var (
	tube   = part{"Tube", 1, 999, 0x0102, func(c *api.Command) *int { return &c.Tube }}
	other  = part{"Other", 1, 999, 0x0203, func(c *api.Command) *int { return &c.Other }}
	donor  = part{"Donor", 1, 99, 77, func(c *api.Command) *int { return &c.Donor }}
	volume = part{"Volume", 1, 1000000, 0x0a0b0c, func(c *api.Command) *int { return &c.Volume }}
	box    = part{"Box", 1, 9, 7, func(c *api.Command) *int { return &c.Box }}
	x      = part{"X", 0, 4, 3, func(c *api.Command) *int { return &c.X }}
	y      = part{"Y", 0, 4, 2, func(c *api.Command) *int { return &c.Y }}
	side   = part{"N", 1, 5, 4, atN}
	turns  = part{"N", 1, 3, 2, atN}
)

var everyPart = []part{tube, other, donor, volume, box, x, y, side}

// shape is a kind, and what belongs to it, in the document's order.
type shape struct {
	kind  int
	parts []part
}

var shapes = []shape{
	{api.NewBox, []part{box, side}},
	{api.Register, []part{tube, donor, volume, box, x, y}},
	{api.Move, []part{tube, box, x, y}},
	{api.Aliquot, []part{tube, other, volume, box, x, y}},
	{api.Pour, []part{tube, other, volume}},
	{api.Use, []part{tube, volume}},
	{api.Take, []part{tube}},
	{api.Return, []part{tube, box, x, y}},
	{api.Withdraw, []part{donor}},
	{api.Turn, []part{box, turns}},
	{api.Flip, []part{box}},
	{api.Show, []part{tube}},
	{api.Content, []part{box}},
	{api.Of, []part{donor}},
	{api.Up, []part{tube}},
	{api.Down, []part{tube}},
}

func (s shape) has(name string) bool {
	for _, p := range s.parts {
		if p.name == name {
			return true
		}
	}
	return false
}

// command is the shape's ordinary command.
func (s shape) command() api.Command {
	c := api.Command{Kind: s.kind}
	for _, p := range s.parts {
		*p.at(&c) = p.ordinary
	}
	return c
}

// frame is what the document says of the shape's ordinary command, with n as the i-th number.
func (s shape) frame(i int, n uint32) string {
	frame := string([]byte{byte(s.kind)})
	for j, p := range s.parts {
		if i == j {
			frame += four(n)
		} else {
			frame += four(uint32(p.ordinary))
		}
	}
	return frame
}

func (s shape) ordinaryFrame() string { return s.frame(-1, 0) }

func wantBoth(t *testing.T, c api.Command, frame string) {
	t.Helper()
	if got, e := firn.Encode(c); got != frame || e != api.OK {
		t.Errorf("Encode(%+v) = %q, %d, want %q", c, got, e, frame)
	}
	if got, e := firn.Decode(frame); got != c || e != api.OK {
		t.Errorf("Decode(%q) = %+v, %d, want %+v", frame, got, e, c)
	}
}

func wantNoCommand(t *testing.T, c api.Command) {
	t.Helper()
	if got, e := firn.Encode(c); got != "" || e != api.ErrFrame {
		t.Errorf("Encode(%+v) = %q, %d, want ErrFrame and nothing else", c, got, e)
	}
}

func wantNoFrame(t *testing.T, frame string) {
	t.Helper()
	if got, e := firn.Decode(frame); got != (api.Command{}) || e != api.ErrFrame {
		t.Errorf("Decode(%.60q) = %+v, %d, want ErrFrame and nothing else", frame, got, e)
	}
}

func TestFirstExampleFrame(t *testing.T) {
	wantBoth(t, api.Command{Kind: api.Use, Tube: 7, Volume: 300}, "\x06\x00\x00\x00\x07\x00\x00\x01\x2c")
}

func TestFrameOfEachKind(t *testing.T) {
	if len(shapes) != 16 {
		t.Fatalf("%d kinds", len(shapes))
	}
	for i, s := range shapes {
		if s.kind != i+1 {
			t.Errorf("kind %d stands at %d", s.kind, i+1)
		}
		wantBoth(t, s.command(), s.ordinaryFrame())
	}
}

func TestNumbersThatMayBe(t *testing.T) {
	for _, s := range shapes {
		for i, p := range s.parts {
			for n := p.least; n <= p.greatest; n++ {
				if n > p.least+1000 && n < p.greatest-1000 && n%997 != 0 {
					continue
				}
				c := s.command()
				*p.at(&c) = n
				wantBoth(t, c, s.frame(i, uint32(n)))
			}
		}
	}
}

func TestAllLeastAndAllGreatest(t *testing.T) {
	for _, s := range shapes {
		low, high := api.Command{Kind: s.kind}, api.Command{Kind: s.kind}
		kind := string([]byte{byte(s.kind)})
		lowFrame, highFrame := kind, kind
		for _, p := range s.parts {
			*p.at(&low), *p.at(&high) = p.least, p.greatest
			lowFrame += four(uint32(p.least))
			highFrame += four(uint32(p.greatest))
		}
		wantBoth(t, low, lowFrame)
		wantBoth(t, high, highFrame)
	}
}

// What a command says of the store is no matter of its frame.
func TestFrameAsksNothingOfTheStore(t *testing.T) {
	wantBoth(t, api.Command{Kind: api.Pour, Tube: 9, Other: 9, Volume: 1}, "\x05"+four(9)+four(9)+four(1))
	wantBoth(t, api.Command{Kind: api.Pour, Tube: 9, Other: 2, Volume: 1}, "\x05"+four(9)+four(2)+four(1))
}

func TestEncodeRefusesNumbersThatMayNotBe(t *testing.T) {
	for _, s := range shapes {
		for _, p := range s.parts {
			for _, n := range []int{
				p.least - 1, p.greatest + 1, -1, -p.greatest, 2 * p.greatest, 1 << 24, 1 << 31,
				// These would be numbers that may be, were just their low bytes looked at.
				p.ordinary + 1<<32, p.ordinary - 1<<32, p.ordinary + 1<<31, p.ordinary + 1<<20,
				math.MaxInt, math.MinInt, math.MinInt + p.ordinary,
			} {
				c := s.command()
				*p.at(&c) = n
				wantNoCommand(t, c)
			}
		}
	}
}

func TestDecodeRefusesNumbersThatMayNotBe(t *testing.T) {
	for _, s := range shapes {
		for i, p := range s.parts {
			n := uint32(p.ordinary)
			for _, wrong := range []uint32{
				uint32(p.least - 1), uint32(p.greatest + 1), -n, math.MaxUint32, 1 << 31,
				n | 1<<31, n | 1<<24, n | 1<<20, n << 24,
			} {
				wantNoFrame(t, s.frame(i, wrong))
			}
		}
	}
}

func TestEncodeRefusesNumbersOfOtherKinds(t *testing.T) {
	for _, s := range shapes {
		for _, p := range everyPart {
			if s.has(p.name) {
				continue
			}
			for _, n := range []int{1, -1, p.greatest, p.greatest + 1, 1 << 32, math.MaxInt, math.MinInt} {
				c := s.command()
				*p.at(&c) = n
				wantNoCommand(t, c)
			}
		}
	}
}

func TestKindsThatAreNone(t *testing.T) {
	for _, kind := range []int{0, 17, 18, 255, 256, 256 + api.Take, 1<<32 + api.Take, -1, -api.Take, math.MaxInt, math.MinInt} {
		wantNoCommand(t, api.Command{Kind: kind})
		for _, s := range shapes {
			c := s.command()
			c.Kind = kind
			wantNoCommand(t, c)
		}
	}
	for kind := range 256 {
		if kind >= api.NewBox && kind <= api.Down {
			continue
		}
		head := string([]byte{byte(kind)})
		wantNoFrame(t, head)
		for _, s := range shapes {
			wantNoFrame(t, head+s.ordinaryFrame()[1:])
		}
	}
}

func TestFramesOfWrongLength(t *testing.T) {
	wantNoFrame(t, "")
	for _, s := range shapes {
		frame := s.ordinaryFrame()
		for i := range len(frame) {
			wantNoFrame(t, frame[:i])
		}
		for _, more := range []string{"\x00", "\x01", four(0), four(1), frame} {
			wantNoFrame(t, frame+more)
		}
		wantNoFrame(t, "\x00"+frame)
		wantNoFrame(t, strings.Repeat(frame, 100000))
	}
}

// A frame has one command, and that one just this frame, whatever the bytes are.
func TestDecodeIsEncodeBackwards(t *testing.T) {
	r := rand.New(rand.NewSource(1))
	for range 200000 {
		frame := []byte(shapes[r.Intn(len(shapes))].ordinaryFrame())
		for range 1 + r.Intn(3) {
			frame[r.Intn(len(frame))] = byte(r.Intn(18))
		}
		c, e := firn.Decode(string(frame))
		if e == api.OK {
			wantBoth(t, c, string(frame))
		} else {
			wantNoFrame(t, string(frame))
		}
	}
}

func TestFramesDependOnNothingElse(t *testing.T) {
	for range 3 {
		for _, s := range shapes {
			wantNoFrame(t, s.ordinaryFrame()+"\x00")
			wantNoCommand(t, api.Command{Kind: s.kind, Tube: -1})
			wantBoth(t, s.command(), s.ordinaryFrame())
		}
	}
}

func FuzzDecode(f *testing.F) {
	for _, s := range shapes {
		f.Add(s.ordinaryFrame())
	}
	f.Fuzz(func(t *testing.T, frame string) {
		if c, e := firn.Decode(frame); e == api.OK {
			wantBoth(t, c, frame)
		} else {
			wantNoFrame(t, frame)
		}
	})
}
