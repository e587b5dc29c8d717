package books

import (
	"slices"
	"strings"
	"testing"

	"firn/api"
)

const anyLimit = 32

// commands are those that made the books of this test: two boxes, a tube of each
// status, and what was poured.
func commands() []api.Command {
	return []api.Command{
		{Kind: api.NewBox, Box: 1, N: 3}, {Kind: api.NewBox, Box: 9, N: 5},
		{Kind: api.Register, Tube: 1, Donor: 1, Volume: 1000000, Box: 1, X: 2, Y: 1},
		{Kind: api.Aliquot, Tube: 1, Other: 2, Volume: 70000, Box: 1, X: 0, Y: 1},
		{Kind: api.Aliquot, Tube: 2, Other: 999, Volume: 300, Box: 9, X: 4, Y: 4},
		{Kind: api.Pour, Tube: 1, Other: 999, Volume: 5},
		{Kind: api.Use, Tube: 2, Volume: 66000},
		{Kind: api.Take, Tube: 2},
		{Kind: api.Register, Tube: 700, Donor: 99, Volume: 256, Box: 9},
		{Kind: api.Aliquot, Tube: 700, Other: 701, Volume: 6, Box: 9, X: 1},
		{Kind: api.Withdraw, Donor: 99},
	}
}

func made(t *testing.T) *Books {
	t.Helper()
	b, _ := Read("", anyLimit)
	for _, c := range commands() {
		if _, e := b.Do(c); e != api.OK {
			t.Fatalf("%+v: %d", c, e)
		}
	}
	return &b
}

// every is a command of each kind, of which many may be done.
func every() []api.Command {
	list := []api.Command{{Kind: api.NewBox, Box: 2, N: 2}}
	for box := 1; box <= api.MaxBox; box++ {
		list = append(list, api.Command{Kind: api.Turn, Box: box, N: 1}, api.Command{Kind: api.Flip, Box: box}, api.Command{Kind: api.Content, Box: box})
	}
	for _, n := range []int{1, 2, 3, 258, 700, 701, 999} {
		list = append(list,
			api.Command{Kind: api.Register, Tube: n, Donor: 1, Volume: 9, Box: 1}, api.Command{Kind: api.Move, Tube: n, Box: 1, X: 1, Y: 1},
			api.Command{Kind: api.Aliquot, Tube: n, Other: n + 1, Volume: 1, Box: 1}, api.Command{Kind: api.Pour, Tube: 1, Other: n, Volume: 1},
			api.Command{Kind: api.Use, Tube: n, Volume: 1}, api.Command{Kind: api.Show, Tube: n}, api.Command{Kind: api.Up, Tube: n}, api.Command{Kind: api.Down, Tube: n},
			api.Command{Kind: api.Take, Tube: n}, api.Command{Kind: api.Return, Tube: n, Box: 9, X: 3, Y: 3})
	}
	for _, donor := range []int{1, 2, 98, 99} {
		list = append(list, api.Command{Kind: api.Of, Donor: donor}, api.Command{Kind: api.Withdraw, Donor: donor})
	}
	return list
}

// wantLedger asks that the books go on with each kind, and stay such as may be read again.
func wantLedger(t *testing.T, b Books) {
	t.Helper()
	for _, c := range every() {
		numbers, e := b.Do(c)
		if e < api.OK || e > api.ErrPlace || e != api.OK && len(numbers) > 0 || len(numbers) > 0 && slices.Max(numbers) > api.MaxVolume {
			t.Fatalf("%+v: %d, %d", c, e, numbers)
		}
		if _, isOne := Read(b.Text(), anyLimit); !isOne {
			t.Fatalf("%+v: books that can't be read again", c)
		}
	}
}

func TestReadIsTextBackwards(t *testing.T) {
	b, _ := Read("", anyLimit)
	other := b
	for _, c := range slices.Concat(commands(), every(), commands()) {
		numbers, e := b.Do(c)
		otherNumbers, otherE := other.Do(c)
		if e != otherE || !slices.Equal(numbers, otherNumbers) {
			t.Fatalf("%+v: %d, %d, want %d, %d", c, e, numbers, otherE, otherNumbers)
		}
		again, isOne := Read(b.Text(), anyLimit)
		if !isOne || again.Text() != b.Text() {
			t.Fatalf("%+v: the books can't be read again", c)
		}
		b = again
	}
}

func TestReadKeepsToTheLimit(t *testing.T) {
	text := made(t).Text()
	for limit := range anyLimit {
		if _, isOne := Read(text, limit); isOne != (limit >= 11) {
			t.Errorf("with the limit %d: %v", limit, isOne)
		}
	}
	b, _ := Read(text, 11)
	if _, e := b.Do(api.Command{Kind: api.NewBox, Box: 5, N: 1}); e != api.ErrFull {
		t.Errorf("one more than the limit: %d", e)
	}
}

// Whatever is spoilt, there are no books, or some.
func TestReadOfSpoiltText(t *testing.T) {
	text := made(t).Text()
	try := func(spoilt string) {
		t.Helper()
		b, isOne := Read(spoilt, anyLimit)
		if isOne {
			wantLedger(t, b)
		} else if b != (Books{}) {
			t.Fatalf("books beside a false")
		}
	}
	for at := range text {
		for _, value := range []byte{0, 1, 2, 3, 4, 5, 6, 9, 10, 15, 16, 99, 100, 127, 128, 231, 232, 254, 255, text[at] + 1, text[at] - 1, text[at] ^ 0x10, text[at] ^ 0x40} {
			try(text[:at] + string([]byte{value}) + text[at+1:])
		}
		try(text[:at])
		try(text[at:])
		try(text[:at] + "\x00" + text[at:])
		try(text[:at] + text[at+1:])
		try(text + text[:at])
	}
}

// A text that ends in the midst of a key or a record is refused as a whole.
func TestReadOfCutText(t *testing.T) {
	b, _ := Read("", anyLimit)
	b.Do(api.Command{Kind: api.NewBox, Box: 1, N: 3})
	b.Do(api.Command{Kind: api.Register, Tube: 5, Donor: 2, Volume: 9, Box: 1})
	text := b.Text()
	for length := range text {
		_, isOne := Read(text[:length], anyLimit)
		if want := length == 0 || length == keySize+sideSize; isOne != want {
			t.Errorf("the first %d bytes: %v", length, isOne)
		}
	}
}

// entries are what the books have, to be changed one by one.
func entries(b *Books) map[uint32]string {
	all := map[uint32]string{}
	for key, record := range b.tree.Range(0, 1<<32-1) {
		all[key] = record
	}
	return all
}

func textOf(all map[uint32]string) string {
	var text strings.Builder
	for key, record := range all {
		text.Write([]byte{byte(key >> 24), byte(key >> 16), byte(key >> 8), byte(key)})
		text.WriteString(record)
	}
	return text.String()
}

// wantRefused asks that the books are read as they are, but not with this change.
func wantRefused(t *testing.T, name string, change func(map[uint32]string)) {
	t.Helper()
	all := entries(made(t))
	if _, isOne := Read(textOf(all), anyLimit); !isOne {
		t.Fatalf("the books are refused without a change")
	}
	change(all)
	if _, isOne := Read(textOf(all), anyLimit); isOne {
		t.Errorf("%s: the books are read", name)
	}
}

func TestReadRefusesKeys(t *testing.T) {
	side, volume := "\x01", volumeText(5)
	record := tube{donor: 1, status: api.Out, began: 1, left: 1}.text()
	for name, add := range map[string]struct {
		key    uint32
		record string
	}{
		"box 0":                    {boxKey(0), side},
		"box 10":                   {boxKey(10), side},
		"box 1023":                 {boxKey(1023), side},
		"box 1 with more bits":     {boxKey(1) | 1<<numberBits, side},
		"tube 0":                   {tubeKey(0), record},
		"tube 1000":                {tubeKey(1000), record},
		"tube 5 with more bits":    {tubeKey(5) | 1<<numberBits, record},
		"from 0":                   {pourKey(0, 1), volume},
		"into itself":              {pourKey(2, 2), volume},
		"from greater to lesser":   {pourKey(2, 1), volume},
		"into 1000":                {pourKey(999, 1000), volume},
		"into 0":                   {pourKey(1, 0), volume},
		"no kind":                  {5, side},
		"the kind behind the last": {4<<20 | 1, volume},
		"a high bit":               {1<<31 | boxKey(3), side},
	} {
		wantRefused(t, name, func(all map[uint32]string) { all[add.key] = add.record })
	}
}

func TestReadRefusesBoxes(t *testing.T) {
	for name, change := range map[string]func(map[uint32]string){
		"side 0":                  func(all map[uint32]string) { all[boxKey(5)] = "\x00" },
		"side 6":                  func(all map[uint32]string) { all[boxKey(5)] = "\x06" },
		"side 6 of the first box": func(all map[uint32]string) { all[boxKey(1)] = "\x06" },
		"side 6 of the last box":  func(all map[uint32]string) { all[boxKey(9)] = "\x06" },
		"side 255":                func(all map[uint32]string) { all[boxKey(5)] = "\xff" },
		"a tube outside its side": func(all map[uint32]string) { all[boxKey(9)] = "\x04" },
		"a tube without a box":    func(all map[uint32]string) { delete(all, boxKey(9)) },
	} {
		wantRefused(t, name, change)
	}
}

func TestReadRefusesPairs(t *testing.T) {
	add := func(all map[uint32]string, from, to, volume int) { all[pourKey(from, to)] = volumeText(volume) }
	for name, change := range map[string]func(map[uint32]string){
		"nothing was poured": func(all map[uint32]string) { add(all, 700, 999, 0) },
		"into no tube":       func(all map[uint32]string) { delete(all, tubeKey(999)) },
		"other volume":       func(all map[uint32]string) { add(all, 1, 2, 70001) },
		"a pair is missing":  func(all map[uint32]string) { delete(all, pourKey(1, 999)) },
		"a pair more":        func(all map[uint32]string) { add(all, 1, 700, 1) },
	} {
		wantRefused(t, name, change)
	}
}

// A volume above what may be poured is refused though all tubes balance; and so is
// one from a tube, or into one, that is not there.
func TestReadRefusesPairsThatBalance(t *testing.T) {
	out := func(began, left, used int) string {
		return tube{donor: 1, status: api.Out, began: began, left: left, used: used}.text()
	}
	all := map[uint32]string{
		tubeKey(1): out(1000000, 0, 0), tubeKey(2): out(1000000, 0, 999999), tubeKey(3): out(0, 1000000, 1),
		pourKey(1, 2): volumeText(1000000), pourKey(2, 3): volumeText(1000001),
	}
	if _, isOne := Read(textOf(all), anyLimit); isOne {
		t.Errorf("more was poured than may be, and the books are read")
	}
	all[tubeKey(2)], all[tubeKey(3)], all[pourKey(2, 3)] = out(1000000, 0, 1000000), out(0, 1000000, 0), volumeText(1000000)
	if _, isOne := Read(textOf(all), anyLimit); !isOne {
		t.Errorf("as much was poured as may be, and the books are not read")
	}
	for _, missing := range []int{1, 3} {
		some := map[uint32]string{tubeKey(1): out(5, 0, 0), tubeKey(3): out(0, 5, 0), pourKey(1, 3): volumeText(5)}
		delete(some, tubeKey(missing))
		if _, isOne := Read(textOf(some), anyLimit); isOne {
			t.Errorf("without tube %d the books are read", missing)
		}
	}
}

func TestReadRefusesTubes(t *testing.T) {
	for name, step := range map[string]struct {
		number int
		change func(*tube)
	}{
		"donor 0":                   {1, func(r *tube) { r.donor = 0 }},
		"donor 100":                 {1, func(r *tube) { r.donor = 100 }},
		"status 0":                  {2, func(r *tube) { r.status = 0 }},
		"status 4":                  {2, func(r *tube) { r.status = 4 }},
		"thaws 10":                  {2, func(r *tube) { r.thaws = 10 }},
		"Out, but in a box":         {2, func(r *tube) { r.box = 1 }},
		"Out, but at x 1":           {2, func(r *tube) { r.place = placeAt(1, 0) }},
		"Out, but at y 1":           {2, func(r *tube) { r.place = placeAt(0, 1) }},
		"Out, lost":                 {2, func(r *tube) { r.lost, r.left = 1, r.left-1 }},
		"Destroyed, but in a box":   {700, func(r *tube) { r.box = 9 }},
		"Destroyed, but at x 1":     {700, func(r *tube) { r.place = placeAt(1, 0) }},
		"Destroyed, something left": {700, func(r *tube) { r.lost, r.left = r.lost-1, 1 }},
		"Stored, lost":              {1, func(r *tube) { r.lost, r.left = 1, r.left-1 }},
		"Stored without a box":      {1, func(r *tube) { r.box = 0 }},
		"Stored in no box":          {1, func(r *tube) { r.box = 2 }},
		"Stored beyond the side":    {1, func(r *tube) { r.place = placeAt(3, 1) }},
		"Stored below the side":     {1, func(r *tube) { r.place = placeAt(2, 3) }},
		"Stored far beyond":         {1, func(r *tube) { r.place = placeAt(255, 0) }},
		"two in one place":          {1, func(r *tube) { r.box, r.place = 9, placeAt(4, 4) }},
		"one more left":             {1, func(r *tube) { r.left++ }},
		"one less left":             {1, func(r *tube) { r.left-- }},
		"one more began":            {1, func(r *tube) { r.began++ }},
		"one more used":             {2, func(r *tube) { r.used++ }},
		"one more lost":             {700, func(r *tube) { r.lost++ }},
		"began with too much":       {1, func(r *tube) { r.began, r.used = 1000001, 1 }},
		"too much left":             {999, func(r *tube) { r.began, r.left = 1000000, 1000305 }},
		"too much used":             {999, func(r *tube) { r.began, r.left, r.used = 1000000, 0, 1000305 }},
		"too much lost":             {701, func(r *tube) { r.began, r.lost = 1000000, 1000006 }},
	} {
		wantRefused(t, name, func(all map[uint32]string) {
			record := readTube(all[tubeKey(step.number)])
			step.change(&record)
			all[tubeKey(step.number)] = record.text()
		})
	}
}

// What may just be is read, by any order of the keys.
func TestReadTakesWhatMayBe(t *testing.T) {
	for name, change := range map[string]func(*tube){
		"donor 1":         func(r *tube) { r.donor = 1 },
		"donor 99":        func(r *tube) { r.donor = 99 },
		"thaws 9":         func(r *tube) { r.thaws = 9 },
		"the first place": func(r *tube) { r.place = placeAt(0, 0) },
		"the last place":  func(r *tube) { r.place = placeAt(2, 2) },
		"Out":             func(r *tube) { r.leave(api.Out) },
		"as much used":    func(r *tube) { r.began, r.left, r.used = 1000000, 0, 1000000-70005 },
	} {
		all := entries(made(t))
		record := readTube(all[tubeKey(1)])
		change(&record)
		all[tubeKey(1)] = record.text()
		b, isOne := Read(textOf(all), anyLimit)
		if !isOne {
			t.Errorf("%s: the books are not read", name)
			continue
		}
		wantLedger(t, b)
	}
}
