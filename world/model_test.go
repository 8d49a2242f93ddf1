package world_test

import (
	"bytes"
	"slices"
	"testing"

	"turnstone/api"
	"turnstone/world"
)

// model says the chapter again: a heap is a list of words, a line is made of bytes by hand.
type model struct {
	words  []uint64
	room   int
	prog   api.Prog
	lits   []uint64
	inputs []int64
	taken  int
	lines  []string
}

// newModel returns nothing if there is no room.
func newModel(p api.Prog, room int, inputs []int64) *model {
	m := &model{words: []uint64{0}, room: room, prog: p, inputs: inputs}
	if room < 1 {
		m.room = 1
	}
	if room > api.MaxHeap {
		m.room = api.MaxHeap
	}
	for _, s := range p.Texts {
		ref, ok := m.text([]byte(s))
		if !ok {
			return nil
		}
		m.lits = append(m.lits, ref)
	}
	return m
}

func (m *model) copy() *model {
	c := *m
	c.words = slices.Clone(m.words)
	c.lines = slices.Clone(m.lines)
	return &c
}

func (m *model) alloc(t int, n int64) (uint64, bool) {
	if t < 0 || t > most || n < 0 || n > most || int64(len(m.words))+n+1 > int64(m.room) {
		return 0, false
	}
	ref := uint64(len(m.words))
	m.words = append(m.words, uint64(t)*(1<<32)+uint64(n))
	m.words = append(m.words, make([]uint64, n)...)
	return ref, true
}

func (m *model) text(s []byte) (uint64, bool) {
	if len(s) == 0 {
		return 0, true
	}
	ref, ok := m.alloc(api.Text, int64(len(s)))
	for i := 0; ok && i < len(s); i++ {
		m.words[int(ref)+1+i] = uint64(s[i])
	}
	return ref, ok
}

func (m *model) bytes(ref uint64) []byte {
	var l []byte
	if ref == 0 || ref >= uint64(len(m.words)) {
		return l
	}
	n := m.words[ref] % (1 << 32)
	for i := uint64(0); i < n && i < uint64(len(m.words)); i++ {
		if ref+1+i < uint64(len(m.words)) {
			l = append(l, byte(m.words[ref+1+i]%256))
		} else {
			l = append(l, 0)
		}
	}
	return l
}

func (m *model) cat(a, b uint64) (uint64, bool) {
	s := append(m.bytes(a), m.bytes(b)...)
	if len(s) > api.MaxLen {
		return 0, false
	}
	return m.text(s)
}

func (m *model) object(t int) (uint64, bool) {
	for i, typ := range m.prog.Types {
		if i == t {
			return m.alloc(t, int64(len(typ.Fields)))
		}
	}
	return m.alloc(t, 0)
}

func (m *model) lit(k int) uint64 {
	for i, ref := range m.lits {
		if i == k {
			return ref
		}
	}
	return 0
}

func (m *model) input() uint64 {
	if m.taken >= len(m.inputs) {
		return 0
	}
	m.taken++
	return uint64(m.inputs[m.taken-1])
}

func (m *model) print(kind int, v uint64) {
	var line []byte
	switch kind {
	case api.Int:
		line = decimal(v)
	case api.Bool:
		line = []byte("true")
		if v == 0 {
			line = []byte("false")
		}
	case api.Text:
		line = m.bytes(v)
	default:
		return
	}
	if len(m.lines) < api.MaxTrace {
		m.lines = append(m.lines, string(line))
	}
}

// decimal returns the digits of a word as an int64, from the last one to the first.
func decimal(v uint64) []byte {
	negative := v >= 1<<63
	if negative {
		v = -v
	}
	var l []byte
	for first := true; first || v > 0; first = false {
		l = append(l, byte('0'+v%10))
		v /= 10
	}
	if negative {
		l = append(l, '-')
	}
	slices.Reverse(l)
	return l
}

// dice gives the same numbers in every run.
type dice uint64

func (d *dice) below(n int) int {
	*d = *d*6364136223846793005 + 1442695040888963407
	return int(uint64(*d) >> 33 % uint64(n))
}

// pick returns one of the wild numbers now and then, else one below n.
func pick[N int | int64 | uint64](d *dice, n int, wild ...N) N {
	if d.below(6) == 0 {
		return wild[d.below(len(wild))]
	}
	return N(d.below(n))
}

func (d *dice) word(used int) uint64 {
	return pick(d, used+2, uint64(0), 1, 1<<32, 1<<32+1, 1<<63, far)
}

func (d *dice) texts() []string {
	l := make([]string, d.below(4))
	for i := range l {
		l[i] = "a\x80\xff\x00b"[d.below(3) : 2+d.below(4)]
	}
	return l
}

func (d *dice) inputs() []int64 {
	l := make([]int64, d.below(4))
	for i := range l {
		l[i] = int64(d.below(1000) - 500)
	}
	return l
}

// compare makes one call of a World and of its model, and tells which one if the answers differ.
func compare(d *dice, w *world.World, m *model) string {
	a, b := d.word(len(m.words)), d.word(len(m.words))
	switch d.below(10) {
	case 0:
		k := pick(d, 5, -1, 1<<40)
		return differ("Lit", w.Lit(k) == m.lit(k))
	case 1:
		kind := pick(d, 5, -1, 5, 6, 7, 8)
		w.Print(kind, a)
		m.print(kind, a)
		return ""
	case 2:
		return differ("Input", w.Input() == m.input())
	case 3:
		t := pick(d, none+2, -1, most, most+1)
		x, ok := w.Object(t)
		y, is := m.object(t)
		return differ("Object", x == y && ok == is)
	case 4:
		t, n := pick(d, none+2, -1, most, most+1), pick(d, 4, int64(-1), 60, most, 1<<32, 1<<62)
		x, ok := w.Slice(t, n)
		y, is := m.alloc(t, n)
		return differ("Slice", x == y && ok == is)
	case 5:
		x, ok := w.Cat(a, b)
		y, is := m.cat(a, b)
		return differ("Cat", x == y && ok == is)
	case 6:
		return differ("Equal", w.Equal(a, b) == bytes.Equal(m.bytes(a), m.bytes(b)))
	case 7:
		return differ("Less", w.Less(a, b) == (bytes.Compare(m.bytes(a), m.bytes(b)) < 0))
	case 8:
		return differ("Taken", w.Taken() == m.taken && w.Full() == (len(m.lines) == api.MaxTrace))
	}
	if ok := w.Heap().Put(a, b); ok {
		m.words[a] = b
	}
	return ""
}

func differ(call string, same bool) string {
	if same {
		return ""
	}
	return call
}

// agree reports whether a World and its model are in the same state, as far as it can be seen.
func agree(w *world.World, m *model) bool {
	return slices.Equal(w.Heap().Words(), m.words) && slices.Equal(w.Trace(), m.lines) && w.Taken() == m.taken
}

// 10.1, 10.2, 10.3, R1: whatever is asked in whatever order, the World does what the chapter says, and its copies too.
func TestModel(t *testing.T) {
	d := dice(1)
	refused := 0
	for round := range 400 {
		p, room, inputs := prog(d.texts()...), d.below(60)-2, d.inputs()
		w, ok := world.New(p, room, inputs)
		m := newModel(p, room, inputs)
		if ok != (m != nil) || ok != (w != nil) {
			t.Fatalf("round %d: New in %d words: %v", round, room, ok)
		}
		if !ok {
			refused++
			continue
		}
		left, kept := w, m // a copy's original, and what it was when the copy was made
		for step := range 200 {
			if d.below(20) == 0 {
				left, kept = w, m.copy()
				w = w.Copy()
			}
			if call := compare(&d, w, m); call != "" || !agree(w, m) {
				t.Fatalf("round %d, step %d: %s differs", round, step, call)
			}
			if left != w && !agree(left, kept) {
				t.Fatalf("round %d, step %d: a copy turns its original", round, step)
			}
		}
	}
	if refused == 0 || refused > 200 {
		t.Errorf("%d rounds without a World", refused)
	}
}
