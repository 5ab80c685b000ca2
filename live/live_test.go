package live_test

import (
	"fmt"
	"math"
	"math/rand/v2"
	"strings"
	"testing"

	"gloss/api"
	"gloss/live"
	"gloss/tuple"
)

// 15.1: a set of no document, of some, and of as many as may be: all live.
func TestNew(t *testing.T) {
	for _, n := range append([]int{api.MaxDocs - 1, api.MaxDocs}, sizes...) {
		set, e := live.New(n)
		if e != api.OK || set == nil {
			t.Fatalf("New(%d): %v, error %d", n, set != nil, e)
		}
		if all, left := set.Count(); all != n || left != n {
			t.Errorf("New(%d): Count = %d, %d", n, all, left)
		}
		for doc := range n {
			if !set.Live(doc) {
				t.Fatalf("New(%d): %d doesn't live", n, doc)
			}
		}
		for _, doc := range strangers(n) {
			if set.Live(doc) {
				t.Errorf("New(%d): %d lives", n, doc)
			}
		}
	}
}

// 15.1: numbers of documents that no set has.
func TestNewRefused(t *testing.T) {
	for n, want := range map[int]api.Errno{
		-1:              api.ErrInput,
		-2:              api.ErrInput,
		-8:              api.ErrInput,
		-api.MaxDocs:    api.ErrInput,
		math.MinInt32:   api.ErrInput,
		-1 << 32:        api.ErrInput,
		math.MinInt + 1: api.ErrInput,
		math.MinInt:     api.ErrInput,
		api.MaxDocs + 1: api.ErrLimit,
		api.MaxDocs + 8: api.ErrLimit,
		2 * api.MaxDocs: api.ErrLimit,
		1 << 31:         api.ErrLimit,
		1 << 32:         api.ErrLimit,
		1<<32 + 1:       api.ErrLimit,
		math.MaxInt - 7: api.ErrLimit,
		math.MaxInt:     api.ErrLimit,
	} {
		if set, e := live.New(n); set != nil || e != want {
			t.Errorf("New(%d): %v, error %d; want error %d", n, set != nil, e, want)
		}
	}
}

// 15.1: a nil set, asked everything, and asked again behind it.
func TestNilSet(t *testing.T) {
	var set *live.Set
	for range 2 {
		for _, doc := range append([]int{0, 1, 7, 8, 9}, strangers(0)...) {
			if set.Kill(doc) || set.Live(doc) {
				t.Errorf("of a nil set %d lives", doc)
			}
		}
		if all, left := set.Count(); all != 0 || left != 0 {
			t.Errorf("Count of nil = %d, %d", all, left)
		}
		if c := set.Copy(); c != nil {
			t.Errorf("Copy of nil is a set")
		}
		if s := set.Pack(); s != "" {
			t.Errorf("Pack of nil = % x", s)
		}
	}
	refused(t, set.Pack(), api.ErrShort)
}

// 15.1: a set of no document is none that is nil.
func TestNoDocuments(t *testing.T) {
	p := pairOf(t, 0)
	p.alike(t)
	for _, doc := range strangers(0) {
		p.kill(t, doc)
	}
	if c := p.set.Copy(); c == nil {
		t.Errorf("a copy of a set of no document is nil")
	}
	if s := p.set.Pack(); s != "\x80" {
		t.Errorf("Pack of no document = % x", s)
	}
	p.read(t).alike(t)
}

// 15.2: of each set: the first document, the last one, those beside them, far ones on both sides; each twice.
func TestKill(t *testing.T) {
	for _, n := range append([]int{api.MaxDocs - 1, api.MaxDocs}, sizes...) {
		p := pairOf(t, n)
		docs := append([]int{0, n - 1, n / 2, 1, n - 2, 7, 8}, strangers(n)...)
		if n > 10000 { // each look at the plain set takes long
			docs = []int{0, n - 1, n / 2, n, n + 1, -1, -n, 1 << 32, math.MinInt, math.MaxInt}
		}
		for _, doc := range docs {
			p.kill(t, doc)
			p.kill(t, doc)
		}
		p.alike(t)
	}
}

// 15.2: Kill tells just once that a document lived; the others go on living.
func TestKillTellsOnce(t *testing.T) {
	for _, n := range []int{1, 7, 8, 9, 64, 100} {
		for doc := range n {
			p := pairOf(t, n)
			for call := range 3 {
				if got := p.set.Kill(doc); got != (call == 0) {
					t.Errorf("of %d, call %d: Kill(%d) = %v", n, call, doc, got)
				}
			}
			p.plain.kill(doc)
			p.alike(t)
		}
	}
}

// 15.2: a Kill that answers false changes nothing.
func TestKillOfNone(t *testing.T) {
	for _, n := range sizes {
		for name, isGone := range picks(n) {
			p := pairBut(t, n, isGone)
			p.name += ", deleted " + name
			for _, doc := range strangers(n) {
				if p.set.Kill(doc) {
					t.Errorf("%s: Kill(%d) = true", p.name, doc)
				}
			}
			for doc, gone := range p.plain {
				if gone && p.set.Kill(doc) {
					t.Errorf("%s: Kill(%d) = true again", p.name, doc)
				}
			}
			p.alike(t)
		}
	}
}

// 15.2: asking changes nothing, however often.
func TestAskingStays(t *testing.T) {
	p := pairBut(t, 21, func(doc int) bool { return doc%3 == 1 })
	for range 3 {
		p.alike(t)
		p.set.Copy()
	}
}

// 15.2, 15.3, 15.4: all sets of up to ten documents, deleted from in both orders, copied, packed and read back.
func TestAllSmallSets(t *testing.T) {
	for n := range 11 {
		for some := range 1 << n {
			up, down := pairOf(t, n), pairOf(t, n)
			up.name = fmt.Sprintf("a set of %d, deleted %b", n, some)
			down.name = up.name + " from the last one on"
			for i := range n {
				if some>>i&1 == 1 {
					up.kill(t, i)
				}
				if last := n - 1 - i; some>>last&1 == 1 {
					down.kill(t, last)
				}
			}
			up.alike(t)
			down.alike(t)
			up.with(up.set.Copy(), "copied").alike(t)
			up.read(t).alike(t)
		}
	}
}

// 15.2: a copy goes its own way, and so does what it was made of, and a copy of a copy.
func TestCopy(t *testing.T) {
	for _, n := range []int{1, 2, 7, 8, 9, 10, 16, 17, 100} {
		for doc := range n {
			p := pairBut(t, n, func(other int) bool { return other%3 == 0 && other != doc })
			first := p.with(p.set.Copy(), "a copy")
			second := first.with(first.set.Copy(), "a copy of a copy")
			all := []*pair{p, first, second}
			for i, one := range all {
				if one.set == all[(i+1)%3].set {
					t.Fatalf("%s: a copy is the set itself", p.name)
				}
				one.alike(t)
			}
			for i, one := range []*pair{first, p, second} {
				one.kill(t, doc)
				one.kill(t, (doc+i+1)%n)
				for _, each := range all {
					each.alike(t)
				}
			}
		}
	}
}

// 15.2: copies of sets of each kind are alike.
func TestCopiesAlike(t *testing.T) {
	for _, n := range sizes {
		for name, isGone := range picks(n) {
			p := pairBut(t, n, isGone)
			c := p.with(p.set.Copy(), "a copy, deleted "+name)
			c.alike(t)
			for doc := n - 1; doc >= 0; doc -= 1 + n/9 {
				c.kill(t, doc)
			}
			c.alike(t)
			p.alike(t)
		}
	}
}

// 15.3, 15.4: the bytes of sets, written out: the chapter's examples among them.
func TestPack(t *testing.T) {
	for _, known := range []struct {
		n    int
		gone []int
		want string
	}{
		{10, []int{9}, "\x8a\x00\x02"},
		{0, nil, "\x80"},
		{1, nil, "\x81\x00"},
		{1, []int{0}, "\x81\x01"},
		{7, nil, "\x87\x00"},
		{7, []int{6}, "\x87\x40"},
		{7, []int{0, 1, 2, 3, 4, 5, 6}, "\x87\x7f"},
		{8, nil, "\x88\x00"},
		{8, []int{0}, "\x88\x01"},
		{8, []int{7}, "\x88\x80"},
		{8, []int{0, 1, 2, 3, 4, 5, 6, 7}, "\x88\xff"},
		{9, nil, "\x89\x00\x00"},
		{9, []int{7}, "\x89\x80\x00"},
		{9, []int{8}, "\x89\x00\x01"},
		{9, []int{8, 0, 7, 1, 6, 2, 5, 3, 4}, "\x89\xff\x01"},
		{10, []int{9, 0}, "\x8a\x01\x02"},
		{16, []int{1, 3, 8, 15}, "\x90\x0a\x81"},
		{17, []int{16, 4}, "\x91\x10\x00\x01"},
		{20, []int{19, 17, 2, 11}, "\x94\x04\x08\x0a"},
		{111, []int{110}, "\xef" + strings.Repeat("\x00", 13) + "\x40"},
		{112, []int{111, 0}, "\xf0\x00\x01" + strings.Repeat("\x00", 12) + "\x80"},
		{113, []int{112}, "\xf0\x01" + strings.Repeat("\x00", 14) + "\x01"},
		{368, []int{8}, "\xf1\x01\x00\x00\x01" + strings.Repeat("\x00", 44)},
		{api.MaxDocs, nil, "\xf2\x0f\xff\x90" + strings.Repeat("\x00", 1<<17)},
		{api.MaxDocs, []int{api.MaxDocs - 1}, "\xf2\x0f\xff\x90" + strings.Repeat("\x00", 1<<17-1) + "\x80"},
		{api.MaxDocs - 1, []int{api.MaxDocs - 2}, "\xf2\x0f\xff\x8f" + strings.Repeat("\x00", 1<<17-1) + "\x40"},
		{api.MaxDocs - 8, []int{3}, "\xf2\x0f\xff\x88\x08" + strings.Repeat("\x00", 1<<17-2)},
	} {
		set, e := live.New(known.n)
		for _, doc := range known.gone {
			if !set.Kill(doc) {
				t.Errorf("New(%d): error %d, Kill(%d) = false", known.n, e, doc)
			}
		}
		if s := set.Pack(); s != known.want {
			t.Errorf("of %d, deleted %v: Pack = % .40x, want % .40x", known.n, known.gone, s, known.want)
		}
		read, e := live.Read(known.want)
		if all, left := read.Count(); e != api.OK || all != known.n || left != known.n-len(known.gone) {
			t.Errorf("Read(% .40x): error %d, Count = %d, %d; want %d without %v", known.want, e, all, left, known.n, known.gone)
		}
		for _, doc := range known.gone {
			if read.Live(doc) {
				t.Errorf("Read(% .40x): %d lives", known.want, doc)
			}
		}
		if s := read.Pack(); s != known.want {
			t.Errorf("Read(% .40x) is packed as % .40x", known.want, s)
		}
	}
	all, _ := live.New(api.MaxDocs)
	for doc := range api.MaxDocs {
		all.Kill(doc)
	}
	if s := all.Pack(); s != "\xf2\x0f\xff\x90"+strings.Repeat("\xff", 1<<17) {
		t.Errorf("Pack of as many as may be, all deleted: % .40x", s)
	}
}

// 15.3, 15.4: sets of each kind are read back, and go on being deleted from as what they were packed of.
func TestReadBack(t *testing.T) {
	for _, n := range sizes {
		for name, isGone := range picks(n) {
			p := pairBut(t, n, isGone)
			p.name += ", deleted " + name
			p.alike(t)
			back := p.read(t)
			back.alike(t)
			for doc := -1; doc <= n; doc += 1 + n/20 {
				p.kill(t, doc)
				back.kill(t, doc)
				if a, b := p.set.Pack(), back.set.Pack(); a != b {
					t.Errorf("%s: Kill(%d): % .40x and % .40x", p.name, doc, a, b)
				}
			}
			back.alike(t)
			back.read(t).alike(t)
		}
	}
}

// 15.2 to 15.4: as many documents as may be, and one less.
func TestManyDocuments(t *testing.T) {
	r := rand.New(rand.NewPCG(15, 4))
	for _, n := range []int{api.MaxDocs, api.MaxDocs - 1} {
		for _, share := range []int{1, 2, 1000} {
			p := pairBut(t, n, func(doc int) bool { return r.IntN(share) == 0 })
			all := []*pair{p, p.read(t), p.with(p.set.Copy(), "copied")}
			for i, one := range all {
				one.alike(t)
				one.kill(t, n-2-i)
			}
			for _, one := range all {
				one.alike(t)
			}
		}
	}
}

// 15.3: each error, where it is the only one.
func TestReadRefused(t *testing.T) {
	for _, c := range []struct {
		s    string
		want api.Errno
	}{
		{"", api.ErrShort},
		{"\x07", api.ErrForm},
		{"\x00", api.ErrForm},
		{"\xf8", api.ErrForm},
		{"\xff", api.ErrForm},
		{"\xf0", api.ErrShort},
		{"\xf1\x00", api.ErrShort},
		{"\xf7\xff\xff\xff\xff\xff\xff\xff", api.ErrShort},
		{"\x0f", api.ErrShort},
		{"\xf1\x00\x05", api.ErrForm},
		{"\xf7\xff\xff\xff\xff\xff\xff\xff\xff", api.ErrForm},
		{"\x7f", api.ErrForm},
		{"\x10", api.ErrForm},
		{"\x0f\xff", api.ErrForm},
		{tuple.Nums(math.MinInt), api.ErrForm},
		{"\xf2\x0f\xff\x91" + strings.Repeat("\x00", 1<<17+1), api.ErrLimit},
		{tuple.Nums(1 << 32), api.ErrLimit},
		{tuple.Nums(1<<32+8) + "\x00", api.ErrLimit},
		{tuple.Nums(math.MaxInt), api.ErrLimit},
		{"\x81", api.ErrShort},
		{"\x88", api.ErrShort},
		{"\x89\x00", api.ErrShort},
		{"\x8a\x01", api.ErrShort},
		{"\xf2\x0f\xff\x90", api.ErrShort},
		{"\xf2\x0f\xff\x90" + strings.Repeat("\x00", 1<<17-1), api.ErrShort},
		{"\x80\x00", api.ErrTail},
		{"\x81\x00\x00", api.ErrTail},
		{"\x88\x00\x00", api.ErrTail},
		{"\x8a\x01\x02\x00", api.ErrTail},
		{"\xf2\x0f\xff\x90" + strings.Repeat("\x00", 1<<17+1), api.ErrTail},
		{"\x8a\x01\x04", api.ErrForm},
		{"\x81\x02", api.ErrForm},
		{"\x87\x80", api.ErrForm},
		{"\x89\x00\x80", api.ErrForm},
		{"\xf2\x0f\xff\x8f" + strings.Repeat("\x00", 1<<17-1) + "\x80", api.ErrForm},
		{"\x8a\x01\x02", api.OK},
		{"\x88\xff", api.OK},
		{"\x87\x7f", api.OK},
	} {
		if set, e := live.Read(c.s); e != c.want || (set == nil) != (e != api.OK) {
			t.Errorf("Read(% .40x): %v, error %d; want %d", c.s, set != nil, e, c.want)
		}
	}
}

// 15.3: of several faults the first is told.
func TestReadTellsFirst(t *testing.T) {
	bits := strings.Repeat("\xff", 1<<17)
	for _, c := range []struct {
		s    string
		want api.Errno
	}{
		{"\x07\xff\xff", api.ErrForm},                        // no number, though bytes are left
		{"\x7f" + bits, api.ErrForm},                         // a number below 0
		{"\xf0", api.ErrShort},                               // a number that is cut off
		{"\xf2\x0f\xff", api.ErrShort},                       // also one that is too great
		{"\xf3\x00\x0f\xff\x91", api.ErrForm},                // too great, and not in its form
		{"\xf2\x0f\xff\x91", api.ErrLimit},                   // too great, and too few bytes
		{"\xf2\x0f\xff\x91" + bits, api.ErrLimit},            // too great, and one byte too few
		{"\xf2\x0f\xff\x91" + bits + "\xff", api.ErrLimit},   // too great, and bits of the filling
		{"\xf2\x0f\xff\x91" + bits + bits, api.ErrLimit},     // too great, and bytes are left
		{"\xf2\x0f\xff\x8f" + bits[1:], api.ErrShort},        // too few bytes, the last of which is no filling
		{"\xf2\x0f\xff\x8f" + bits, api.ErrForm},             // a bit of the filling
		{"\xf2\x0f\xff\x8f" + bits + "\x00", api.ErrTail},    // a bit of the filling, and a byte is left
		{"\x8a\xff", api.ErrShort},                           // too few bytes, and bits where another set has filling
		{"\x8a\x00\x04\x00", api.ErrTail},                    // a bit of the filling, and a byte is left
		{"\x8a\x00\xff\xff\xff", api.ErrTail},                // all bits of the filling, and bytes are left
		{"\x80\xff", api.ErrTail},                            // of no document there is no filling
		{"\x88\xff\x01", api.ErrTail},                        // of whole bytes neither
		{"\x81\xfe\x01", api.ErrTail},                        // bits of the filling, and a byte is left
		{tuple.Nums(-1<<40) + "\xff", api.ErrForm},           // far below 0
		{tuple.Nums(math.MaxInt) + bits + "x", api.ErrLimit}, // far too great
	} {
		refused(t, c.s, c.want)
	}
}

// 15.3: all rows of up to two bytes, and of three those that begin with the number of up to 17 documents.
func TestReadAllRows(t *testing.T) {
	isRead(t, "")
	for a := range 256 {
		isRead(t, string([]byte{byte(a)}))
		for b := range 256 {
			isRead(t, string([]byte{byte(a), byte(b)}))
		}
	}
	for n := range 18 {
		for b := range 256 {
			for c := range 256 {
				isRead(t, string([]byte{byte(128 + n), byte(b), byte(c)}))
			}
		}
	}
}

// 15.3: packed sets with each bit turned, cut at each place, and with bytes behind them.
func TestReadChanged(t *testing.T) {
	for _, n := range []int{0, 1, 7, 8, 9, 15, 16, 17, 64, 65, 111, 112, 113, 368, 369} {
		for _, isGone := range picks(n) {
			s := pairBut(t, n, isGone).plain.pack()
			for bit := range 8 * len(s) {
				changed := []byte(s)
				changed[bit/8] ^= 1 << (bit % 8)
				isRead(t, string(changed))
			}
			for size := range len(s) {
				isRead(t, s[:size])
			}
			for _, more := range []string{"\x00", "\x01", "\xff", "\x00\x00", s} {
				isRead(t, s+more)
			}
		}
	}
}

// 15.3: each bit of the filling, beside all the bits that stand for documents, and beside none.
func TestReadFilling(t *testing.T) {
	for n := range 130 {
		for _, name := range []string{"none", "all", "the last"} {
			s := pairBut(t, n, picks(n)[name]).set.Pack()
			isRead(t, s)
			for place := n; place%8 != 0; place++ {
				changed := []byte(s)
				changed[len(s)-1] |= 1 << (place % 8)
				refused(t, string(changed), api.ErrForm)
			}
		}
	}
}

// 15.3: drawn bytes.
func TestReadDrawn(t *testing.T) {
	r := rand.New(rand.NewPCG(15, 3))
	for range 20000 {
		n := r.IntN(1 + r.IntN(400))
		row := []byte(tuple.Nums(n))
		for range max(0, (n+7)/8+r.IntN(5)/2-1) {
			row = append(row, byte(r.IntN(256)&r.IntN(256)))
		}
		if last := len(row) - 1; n%8 != 0 && r.IntN(3) > 0 {
			row[last] &= 1<<(n%8) - 1
		}
		isRead(t, string(row))
	}
}

// Rule 4: what was packed stays as it is, and what is read of one text goes each its own way.
func TestSharesNothing(t *testing.T) {
	for _, n := range []int{1, 8, 9, 100} {
		p := pairBut(t, n, func(doc int) bool { return doc%2 == 1 })
		s := p.set.Pack()
		kept := strings.Clone(s)
		one, other := p.read(t), p.read(t)
		for doc := range n {
			p.kill(t, doc)
			if doc%4 == 0 {
				one.kill(t, doc)
			}
		}
		if s != kept {
			t.Errorf("of %d: what was packed is % x now, was % x", n, s, kept)
		}
		p.alike(t)
		one.alike(t)
		other.alike(t)
	}
}

// Rule 6: two sets of as many documents are two.
func TestTwoSets(t *testing.T) {
	a, b := pairOf(t, 20), pairOf(t, 20)
	for doc := range 20 {
		if doc%3 == 0 {
			a.kill(t, doc)
		} else {
			b.kill(t, doc)
		}
		a.alike(t)
		b.alike(t)
	}
}
