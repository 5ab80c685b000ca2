package vfs_test

import (
	"slices"
	"strings"
	"testing"

	"gloss/api"
	"gloss/vfs"
)

// disk is what the chapter says that a disk can do.
type disk interface {
	Arm(n int, e api.Errno) api.Errno
	Calm()
	Steps() int
	Down() bool
	Create(name string) api.Errno
	Append(name, data string) api.Errno
	Sync(name string) api.Errno
	Rename(from, to string) api.Errno
	Remove(name string) api.Errno
	SyncDir() api.Errno
	Read(name string) (string, api.Errno)
	List() []string
	Restart(loss int) api.Errno
}

// plain is a disk as the chapter tells it, to hold the other one against: files have numbers, in the order in which
// they were made; names stand in lists in no order, and are searched from the beginning. It is used with names alone.
type plain struct {
	texts     []string // of each file, its bytes
	sizes     []int    // of each file, how many bytes are sure
	now, sure []entry
	steps     int
	down      bool
	pending   []api.Errno // what the next calls answer; empty, if it isn't armed
}

type entry struct {
	name string
	file int
}

// fileOf answers a name's file; -1, if there is no such name.
func fileOf(list []entry, name string) int {
	for _, e := range list {
		if e.name == name {
			return e.file
		}
	}
	return -1
}

// without answers a list without a name, a new one.
func without(list []entry, name string) []entry {
	var out []entry
	for _, e := range list {
		if e.name != name {
			out = append(out, e)
		}
	}
	return out
}

func (p *plain) Arm(n int, e api.Errno) api.Errno {
	p.pending = append(make([]api.Errno, n), e)
	return api.OK
}

func (p *plain) Calm()      { p.pending = nil }
func (p *plain) Steps() int { return p.steps }
func (p *plain) Down() bool { return p.down }

// refused answers the error of a call that needs a name (none, if it is empty), the fault among them.
func (p *plain) refused(name string) api.Errno {
	if p.down {
		return api.ErrDown
	}
	if name != "" && fileOf(p.now, name) < 0 {
		return api.ErrNone
	}
	if len(p.pending) > 0 {
		e := p.pending[0]
		p.pending = p.pending[1:]
		p.down = e == api.ErrDown
		if e != api.OK {
			return e
		}
	}
	p.steps++
	return api.OK
}

func (p *plain) Create(name string) api.Errno {
	e := p.refused("")
	if e == api.OK {
		p.now = append(without(p.now, name), entry{name, len(p.texts)})
		p.texts, p.sizes = append(p.texts, ""), append(p.sizes, 0)
	}
	return e
}

func (p *plain) Append(name, data string) api.Errno {
	e := p.refused(name)
	if e == api.OK {
		p.texts[fileOf(p.now, name)] += data
	}
	return e
}

func (p *plain) Sync(name string) api.Errno {
	e := p.refused(name)
	if e == api.OK {
		n := fileOf(p.now, name)
		p.sizes[n] = len(p.texts[n])
	}
	return e
}

func (p *plain) Rename(from, to string) api.Errno {
	e := p.refused(from)
	if e == api.OK && from != to {
		n := fileOf(p.now, from)
		p.now = append(without(without(p.now, from), to), entry{to, n})
	}
	return e
}

func (p *plain) Remove(name string) api.Errno {
	e := p.refused(name)
	if e == api.OK {
		p.now = without(p.now, name)
	}
	return e
}

func (p *plain) SyncDir() api.Errno {
	e := p.refused("")
	if e == api.OK {
		p.sure = slices.Clone(p.now)
	}
	return e
}

func (p *plain) Read(name string) (string, api.Errno) {
	switch n := fileOf(p.now, name); {
	case p.down:
		return "", api.ErrDown
	case n < 0:
		return "", api.ErrNone
	default:
		return p.texts[n], api.OK
	}
}

func (p *plain) List() []string {
	if p.down {
		return nil
	}
	return namesOf(p.now...)
}

// namesOf answers the names of lists, rising, each once.
func namesOf(list ...entry) []string {
	var names []string
	for _, e := range list {
		if !slices.Contains(names, e.name) {
			names = append(names, e.name)
		}
	}
	slices.Sort(names)
	return names
}

func (p *plain) Restart(loss int) api.Errno {
	var after []entry
	drawn := uint64(0)
	for _, name := range namesOf(append(slices.Clone(p.now), p.sure...)...) {
		n := fileOf(p.now, name)
		if other := fileOf(p.sure, name); n != other {
			drawn++
			if mixed(uint64(loss), drawn)%2 == 0 {
				n = other
			}
		}
		if n >= 0 {
			after = append(after, entry{name, n})
		}
	}
	var done []int
	for _, e := range after {
		if slices.Contains(done, e.file) {
			continue
		}
		done = append(done, e.file)
		size := p.sizes[e.file]
		if more := len(p.texts[e.file]) - size; more > 0 {
			drawn++
			size += int(mixed(uint64(loss), drawn) % uint64(more+1))
		}
		p.texts[e.file], p.sizes[e.file] = p.texts[e.file][:size], size
	}
	p.now, p.sure = after, slices.Clone(after)
	p.down, p.pending = false, nil
	return api.OK
}

// mixed is mix, with the chapter's divisions.
func mixed(loss, i uint64) uint64 {
	x := loss + i*0x9e3779b97f4a7c15
	x = (x ^ x/(1<<30)) * 0xbf58476d1ce4e5b9
	x = (x ^ x/(1<<27)) * 0x94d049bb133111eb
	return x ^ x/(1<<31)
}

// do does a call that is told as a text: its name, and what is handed in.
func do(d disk, call string) api.Errno {
	words := append(strings.Fields(call), "", "")
	switch words[0] {
	case "create":
		return d.Create(words[1])
	case "append":
		return d.Append(words[1], words[2])
	case "sync":
		return d.Sync(words[1])
	case "rename":
		return d.Rename(words[1], words[2])
	case "remove":
		return d.Remove(words[1])
	case "syncdir":
		return d.SyncDir()
	}
	panic("no such call: " + call)
}

// doAll does calls that are told as a text, parted by semicolons, up to the first that is refused, and answers its error.
func doAll(d disk, calls string) api.Errno {
	for call := range strings.SplitSeq(calls, ";") {
		if e := do(d, call); e != api.OK {
			return e
		}
	}
	return api.OK
}

// shown answers the names and bytes of a disk as a text: a=one b=.
func shown(d disk) string {
	var out []string
	for _, name := range d.List() {
		s, e := d.Read(name)
		if e != api.OK {
			s = "?"
		}
		out = append(out, name+"="+s)
	}
	return strings.Join(out, " ")
}

// made answers a new disk to which changes were done.
func made(t *testing.T, calls string) *vfs.Disk {
	t.Helper()
	d := vfs.New()
	if e := doAll(d, calls); e != api.OK {
		t.Fatalf("%s: error %d", calls, e)
	}
	return d
}

// lost answers what a disk shows behind a loss.
func lost(d disk, loss int) string {
	d.Restart(loss)
	return shown(d)
}

// manyLosses is how many losses are tried, where all that may be left is looked for.
const manyLosses = 200

// left answers all that losses leave of a disk to which changes were done, in order.
func left(t *testing.T, calls string) []string {
	t.Helper()
	var all []string
	for loss := range manyLosses {
		all = append(all, lost(made(t, calls), loss))
	}
	slices.Sort(all)
	return slices.Compact(all)
}
