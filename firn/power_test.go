package firn_test

import (
	"bytes"
	"iter"
	"math/rand"
	"slices"
	"testing"

	"firn/api"
	"firn/firn"
)

// loss is what a loss of power may leave.
type loss struct {
	// made is how many writes were made, whether they have lasted or not.
	made  int
	torn  bool
	image []byte
}

// makeAll lays writes of sectors onto an image.
func makeAll(image []byte, writes []api.Write) []byte {
	for _, w := range writes {
		if w.Sector != -1 {
			copy(image[w.Sector*api.Sector:], w.Data)
		}
	}
	return image
}

// losses are those at each place in the writes: ahead of the first one, between any
// two, behind the last one. The image of each is good until the next one.
func losses(r *rand.Rand, image []byte, writes []api.Write) iter.Seq[loss] {
	return func(yield func(loss) bool) {
		lasted, flushed := slices.Clone(image), 0
		if !yield(loss{image: slices.Clone(lasted)}) {
			return
		}
		for i, w := range writes {
			if w.Sector == -1 {
				lasted, flushed = makeAll(lasted, writes[flushed:i]), i+1
				if !yield(loss{made: i + 1, image: slices.Clone(lasted)}) {
					return
				}
				continue
			}
			// Where this one has not lasted at all, it is as if it had not been made.
			for _, ahead := range choices(r, writes[flushed:i]) {
				for l := range tears(lasted, append(ahead, w)) {
					l.made = i + 1
					if !yield(l) {
						return
					}
				}
			}
		}
	}
}

// few writes are so few that each choice of them is tried.
const few = 5

// choices tells which of these writes may have lasted, all others not.
func choices(r *rand.Rand, writes []api.Write) [][]api.Write {
	if len(writes) > few {
		return drawnChoices(r, writes)
	}
	var list [][]api.Write
	for which := range 1 << len(writes) {
		list = append(list, chosen(writes, func(i int) bool { return which>>i&1 == 1 }))
	}
	return list
}

// drawnChoices are none, all, each one alone, each one left out, and some more.
func drawnChoices(r *rand.Rand, writes []api.Write) [][]api.Write {
	list := [][]api.Write{nil, slices.Clone(writes)}
	for one := range writes {
		list = append(list,
			chosen(writes, func(i int) bool { return i == one }),
			chosen(writes, func(i int) bool { return i != one }),
			chosen(writes, func(int) bool { return r.Intn(2) == 0 }))
	}
	return list
}

func chosen(writes []api.Write, has func(int) bool) []api.Write {
	var list []api.Write
	for i, w := range writes {
		if has(i) {
			list = append(list, w)
		}
	}
	return list
}

// tears are of writes that have lasted: all of them whole, and each one torn behind
// each number of its first bytes. What is left by one byte more is told just where
// it is another image.
func tears(lasted []byte, writes []api.Write) iter.Seq[loss] {
	return func(yield func(loss) bool) {
		told, image := make([]byte, len(lasted)), make([]byte, len(lasted))
		tell := func(writes []api.Write, torn bool) bool {
			copy(image, lasted)
			if makeAll(image, writes); torn && bytes.Equal(image, told) {
				return true
			}
			told, image = image, told
			return yield(loss{torn: torn, image: told})
		}
		if !tell(writes, false) {
			return
		}
		for i, w := range writes {
			parts := slices.Clone(writes)
			for first := 1; first < len(w.Data); first++ {
				parts[i].Data = w.Data[:first]
				if !tell(parts, true) {
					return
				}
			}
		}
	}
}

// lose draws one of the losses.
func lose(r *rand.Rand, image []byte, writes []api.Write) []byte {
	made := r.Intn(len(writes) + 1)
	flushed := 0
	for i, w := range writes[:made] {
		if w.Sector == -1 {
			flushed = i + 1
		}
	}
	left := makeAll(slices.Clone(image), writes[:flushed])
	behind := chosen(writes[flushed:made], func(int) bool { return r.Intn(3) > 0 })
	if len(behind) > 0 && r.Intn(3) > 0 {
		one := &behind[r.Intn(len(behind))]
		one.Data = one.Data[:r.Intn(len(one.Data))]
	}
	return makeAll(left, behind)
}

// view is frames that change nothing.
type view []string

func (v *view) add(commands ...api.Command) {
	for _, c := range commands {
		frame, _ := firn.Encode(c)
		*v = append(*v, frame)
	}
}

// everything asks of every number.
func everything() view {
	var v view
	for n := 1; n <= api.MaxTube; n++ {
		v.add(show(n), up(n), down(n))
	}
	for n := 1; n <= api.MaxBox; n++ {
		v.add(content(n))
	}
	for n := 1; n <= api.MaxDonor; n++ {
		v.add(of(n))
	}
	return v
}

// glance asks just of some tubes, and of the first boxes and donors.
func glance(tubes []int, boxes, donors int) view {
	var v view
	for _, n := range tubes {
		v.add(show(n), up(n), down(n))
	}
	for n := 1; n <= boxes; n++ {
		v.add(content(n))
	}
	for n := 1; n <= donors; n++ {
		v.add(of(n))
	}
	return v
}

// of is what a ledger tells.
func (v view) of(ledger *firn.Ledger) []string {
	var replies []string
	for _, frame := range v {
		reply, _ := ledger.Do(frame)
		replies = append(replies, reply)
	}
	return replies
}

// tells asks whether a ledger tells just this.
func (v view) tells(ledger *firn.Ledger, replies []string) bool {
	for i, frame := range v {
		if reply, _ := ledger.Do(frame); reply != replies[i] {
			return false
		}
	}
	return true
}

// underWay is a command that was answered, but whose writes may not all have been made.
type underWay struct {
	command       api.Command
	reply         string
	writes        []api.Write
	view          view
	before, after []string
}

// begin does a command without making its writes.
func begin(s *store, c api.Command, v view) underWay {
	s.t.Helper()
	frame, e := firn.Encode(c)
	if e != api.OK {
		s.t.Fatalf("%+v is no command", c)
	}
	u := underWay{command: c, view: v, before: v.of(s.ledger)}
	u.reply, u.writes = s.ledger.Do(frame)
	u.after = v.of(s.ledger)
	return u
}

// wantEither asks that the command is there wholly or not at all, and tells which.
func (u underWay) wantEither(t *testing.T, l loss) bool {
	t.Helper()
	s := openStore(t, l.image)
	switch {
	case u.view.tells(s.ledger, u.after):
		return true
	case l.made < len(u.writes) && u.view.tells(s.ledger, u.before):
		return false
	}
	t.Fatalf("%+v: a loss behind %d of %d writes (one of them torn: %v) leaves neither what was nor what is to be", u.command, l.made, len(u.writes), l.torn)
	return false
}

// wantAll asks that of every loss in the command's writes.
func (u underWay) wantAll(s *store, r *rand.Rand) {
	s.t.Helper()
	for l := range losses(r, s.image, u.writes) {
		u.wantEither(s.t, l)
	}
}
