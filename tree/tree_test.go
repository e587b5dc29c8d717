package tree

import (
	"maps"
	"math"
	"math/rand"
	"slices"
	"strconv"
	"testing"
)

// wantSame holds a tree against what was put into it.
func wantSame(t *testing.T, got Tree, want map[uint32]string) {
	t.Helper()
	if got.Len() != len(want) {
		t.Fatalf("Len = %d, want %d", got.Len(), len(want))
	}
	wantRange(t, got, want, 0, math.MaxUint32)
	for key, value := range want {
		if v, isThere := got.Get(key); v != value || !isThere {
			t.Fatalf("Get(%d) = %q, %v, want %q", key, v, isThere, value)
		}
		for _, beside := range []uint32{key - 1, key + 1} {
			v, isThere := got.Get(beside)
			if w, wantThere := want[beside]; v != w || isThere != wantThere {
				t.Fatalf("Get(%d) = %q, %v, want %q, %v", beside, v, isThere, w, wantThere)
			}
		}
	}
}

func wantRange(t *testing.T, got Tree, want map[uint32]string, from, to uint32) {
	t.Helper()
	keys := slices.Sorted(maps.Keys(want))
	keys = slices.DeleteFunc(keys, func(key uint32) bool { return key < from || key > to })
	var told []uint32
	for key, value := range got.Range(from, to) {
		if value != want[key] {
			t.Fatalf("Range tells %q of %d, want %q", value, key, want[key])
		}
		told = append(told, key)
	}
	if !slices.Equal(told, keys) {
		t.Fatalf("Range(%d, %d) tells %d, want %d", from, to, told, keys)
	}
}

// wantShape asks that all leaves are equally deep, no node has too much, none but
// the root too little, and each entry has the least key below it. It tells the depth.
func wantShape(t *testing.T, n *node, isRoot bool) int {
	t.Helper()
	least := (maxEntries + 1) / 2
	if isRoot {
		least = 1
	}
	if len(n.entries) > maxEntries || len(n.entries) < least {
		t.Fatalf("a node has %d entries", len(n.entries))
	}
	deep := -1
	for _, e := range n.entries {
		below := 0
		if e.below != nil {
			below = 1 + wantShape(t, e.below, false)
			if e.key != e.below.entries[0].key {
				t.Fatalf("an entry has the key %d, below it %d is the first", e.key, e.below.entries[0].key)
			}
		}
		if deep >= 0 && deep != below {
			t.Fatalf("leaves are %d and %d deep", deep, below)
		}
		deep = below
	}
	return deep
}

// orders are ways to put many keys into a tree.
func orders() map[string][]uint32 {
	all := map[string][]uint32{}
	for i := range uint32(600) {
		all["rising"] = append(all["rising"], 7+3*i)
		all["falling"] = append(all["falling"], 5000-2*i)
		all["to and fro"] = append(all["to and fro"], 10000+i*(i%2)-i*(1-i%2))
	}
	r := rand.New(rand.NewSource(2))
	for range 600 {
		all["any"] = append(all["any"], uint32(r.Intn(900)))
		all["wide"] = append(all["wide"], r.Uint32())
	}
	all["ends"] = []uint32{math.MaxUint32, 0, 1, math.MaxUint32 - 1}
	return all
}

func TestEmptyTree(t *testing.T) {
	var empty Tree
	wantSame(t, empty, nil)
	if v, isThere := empty.Get(0); v != "" || isThere {
		t.Errorf("Get(0) = %q, %v", v, isThere)
	}
}

func TestPut(t *testing.T) {
	for name, keys := range orders() {
		t.Run(name, func(t *testing.T) {
			var tree Tree
			want := map[uint32]string{}
			for i, key := range keys {
				value := strconv.Itoa(i)
				tree.Put(key, value)
				want[key] = value
				wantShape(t, tree.root, true)
				if i%20 == 0 || i < 40 {
					wantSame(t, tree, want)
				}
			}
			wantSame(t, tree, want)
			for _, key := range keys {
				tree.Put(key, "again")
				want[key] = "again"
			}
			wantSame(t, tree, want)
			wantShape(t, tree.root, true)
		})
	}
}

func TestCopiesStay(t *testing.T) {
	for name, keys := range orders() {
		t.Run(name, func(t *testing.T) {
			var tree Tree
			want := map[uint32]string{}
			var copies []Tree
			var wanted []map[uint32]string
			for i, key := range keys {
				if i%50 == 0 || i < 20 {
					copies, wanted = append(copies, tree), append(wanted, maps.Clone(want))
				}
				tree.Put(key, strconv.Itoa(i))
				want[key] = strconv.Itoa(i)
			}
			for i := range copies {
				wantSame(t, copies[i], wanted[i])
				copies[i].Put(keys[0], "other")
				copies[i].Put(4001, "more")
			}
			wantSame(t, tree, want)
		})
	}
}

func TestRange(t *testing.T) {
	var tree Tree
	want := map[uint32]string{}
	for _, key := range orders()["any"] {
		tree.Put(key, strconv.Itoa(int(key)))
		want[key] = strconv.Itoa(int(key))
	}
	for from := uint32(0); from < 910; from += 7 {
		for _, length := range []uint32{0, 1, 2, 13, 100, 900, math.MaxUint32 - from} {
			wantRange(t, tree, want, from, from+length)
		}
		wantRange(t, tree, want, from+1, from)
	}
}

func TestRangeEndsWhenAsked(t *testing.T) {
	var tree Tree
	for key := range uint32(100) {
		tree.Put(key, "")
	}
	for most := 1; most <= 100; most++ {
		count := 0
		for range tree.Range(0, math.MaxUint32) {
			count++
			if count == most {
				break
			}
		}
		if count != most {
			t.Fatalf("%d keys behind a break at %d", count, most)
		}
	}
}

func TestRangeDoesNotSeeWhatIsPutMeanwhile(t *testing.T) {
	var tree Tree
	for key := range uint32(50) {
		tree.Put(2*key, "old")
	}
	count := 0
	for key, value := range tree.Range(0, math.MaxUint32) {
		if value != "old" || key%2 != 0 {
			t.Fatalf("Range tells %q of %d", value, key)
		}
		tree.Put(key+1, "new")
		tree.Put(key+2, "new")
		count++
	}
	if count != 50 {
		t.Errorf("Range told %d keys", count)
	}
}
