package heap_test

import (
	"math"
	"slices"
	"testing"

	"turnstone/api"
	"turnstone/heap"
)

// model says the chapter again, call by call and without any sharing between the calls.
type model struct {
	words []uint64
	room  int
}

func (m *model) exists(ref uint64) bool {
	return ref != 0 && ref < uint64(len(m.words))
}

func (m *model) word(at uint64) uint64 {
	if at < uint64(len(m.words)) {
		return m.words[at]
	}
	return 0
}

func (m *model) put(at, v uint64) bool {
	if !m.exists(at) {
		return false
	}
	m.words[at] = v
	return true
}

func (m *model) len(ref uint64) int {
	if !m.exists(ref) {
		return 0
	}
	return int(m.words[ref] % (1 << 32))
}

func (m *model) kind(ref uint64) int {
	if !m.exists(ref) {
		return 0
	}
	return int(m.words[ref] / (1 << 32))
}

func (m *model) has(ref uint64, i int) bool {
	return m.exists(ref) && i >= 0 && i < m.len(ref) && i < len(m.words)-1-int(ref)
}

func (m *model) get(ref uint64, i int) uint64 {
	if !m.has(ref, i) {
		return 0
	}
	return m.words[int(ref)+1+i]
}

func (m *model) set(ref uint64, i int, v uint64) bool {
	if !m.has(ref, i) {
		return false
	}
	m.words[int(ref)+1+i] = v
	return true
}

func (m *model) alloc(t, n int) (uint64, bool) {
	if t < 0 || t > most || n < 0 || n > most || len(m.words)+n+1 > m.room {
		return 0, false
	}
	ref := len(m.words)
	m.words = append(m.words, uint64(t)*(1<<32)+uint64(n))
	for range n {
		m.words = append(m.words, 0)
	}
	return uint64(ref), true
}

func (m *model) text(s string) (uint64, bool) {
	if s == "" {
		return 0, true
	}
	ref, ok := m.alloc(api.Text, len(s))
	for i := 0; ok && i < len(s); i++ {
		m.words[int(ref)+1+i] = uint64(s[i])
	}
	return ref, ok
}

func (m *model) string(ref uint64) string {
	var l []byte
	for i := 0; i < m.len(ref) && i < len(m.words); i++ {
		l = append(l, byte(m.get(ref, i)%256))
	}
	return string(l)
}

// dice gives the same numbers in every run.
type dice uint64

func (d *dice) below(n int) int {
	*d = *d*6364136223846793005 + 1442695040888963407
	return int(uint64(*d) >> 33 % uint64(n))
}

func (d *dice) number() int {
	wild := []int{math.MinInt, -1, 0, 1, most, most + 1, 1 << 32, math.MaxInt}
	if d.below(4) == 0 {
		return wild[d.below(len(wild))]
	}
	return d.below(7)
}

func (d *dice) word(used int) uint64 {
	wild := []uint64{0, 1, 1 << 32, 1<<32 + 3, 5<<32 + 4, 1<<32 - 1, 1 << 63, far - 1, far}
	if d.below(4) == 0 {
		return wild[d.below(len(wild))]
	}
	return uint64(d.below(used + 3))
}

// compare makes one call of a heap and of its model, and tells which one if the answers differ.
func compare(d *dice, h *heap.Heap, m *model) string {
	ref, i, v := d.word(len(m.words)), d.number(), d.word(len(m.words))
	switch d.below(9) {
	case 0:
		n := d.number()
		a, ok := h.Alloc(i, n)
		b, is := m.alloc(i, n)
		return differ("Alloc", a == b && ok == is)
	case 1:
		s := "a\x80\xff\x00é"[:d.below(7)]
		a, ok := h.Text(s)
		b, is := m.text(s)
		return differ("Text", a == b && ok == is)
	case 2:
		return differ("Set", h.Set(ref, i, v) == m.set(ref, i, v))
	case 3:
		return differ("Put", h.Put(ref, v) == m.put(ref, v))
	case 4:
		return differ("Get", h.Get(ref, i) == m.get(ref, i))
	case 5:
		return differ("Type", h.Type(ref) == m.kind(ref))
	case 6:
		return differ("Len", h.Len(ref) == m.len(ref))
	case 7:
		return differ("Word", h.Word(ref) == m.word(ref))
	}
	return differ("String", h.String(ref) == m.string(ref))
}

func differ(call string, same bool) string {
	if same {
		return ""
	}
	return call
}

// 1.1, 1.2, 1.3, R1: whatever is asked in whatever order, the heap does what the chapter says, and its copies too.
func TestModel(t *testing.T) {
	d := dice(1)
	for round := range 300 {
		room := 1 + d.below(60)
		h, m := newHeap(t, room), &model{words: []uint64{0}, room: room}
		for step := range 200 {
			if d.below(20) == 0 {
				h = h.Copy()
			}
			if call := compare(&d, h, m); call != "" {
				t.Fatalf("round %d, step %d: %s differs", round, step, call)
			}
			if !slices.Equal(h.Words(), m.words) || h.Used() != len(m.words) {
				t.Fatalf("round %d, step %d: %v, want %v", round, step, h.Words(), m.words)
			}
		}
	}
}
