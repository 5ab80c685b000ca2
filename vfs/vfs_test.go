package vfs_test

import (
	"math"
	"math/rand/v2"
	"slices"
	"strings"
	"testing"

	"gloss/api"
	"gloss/vfs"
)

// noNames are texts that are no names.
var noNames = []string{
	"", "A", "aB", " ", "a ", " a", "a b", "a/b", "/", "a-b", "a\x00", "\x00", "a\n", "é", "ä", "\xff", "a\x80", "a`", "a{", "a:", "a@",
	strings.Repeat("a", 41), strings.Repeat("a", 80), strings.Repeat("a", 39) + "é",
}

// faults are the errors that a disk can be armed with.
var faults = []api.Errno{api.ErrIO, api.ErrFull, api.ErrDown}

// edges are losses at the ends of the numbers, and near 0.
var edges = []int{math.MinInt, math.MinInt + 1, -1 << 32, -2, -1, 0, 1, 2, 1 << 32, math.MaxInt - 1, math.MaxInt}

// base is a disk with all kinds of files: a with more bytes than are sure, b without sure bytes, d without a sure name, c gone, e and f renamed.
const base = "create a;append a one;sync a;create b;create c;append c xyz;create e;append e six;sync e;syncdir;append a two;append b xyz;create d;append d uvw;sync d;remove c;rename e f"

// calls are the six calls, each of which would be seen on a disk that is as base tells.
var calls = []string{"create g", "create a", "append a z", "append b z", "sync a", "sync b", "rename a b", "rename d g", "remove a", "remove d", "syncdir"}

// same tells of two disks of which one shows something else, as they are or behind some loss. Each call of one or
// other makes a new disk.
func same(t *testing.T, what string, one, other func() disk) {
	t.Helper()
	if a, b := shown(one()), shown(other()); a != b {
		t.Errorf("%s: %q, want %q", what, a, b)
	}
	for loss := range manyLosses {
		if a, b := lost(one(), loss), lost(other(), loss); a != b {
			t.Fatalf("%s: behind the loss %d %q, want %q", what, loss, a, b)
		}
	}
}

// want tells of a call that answers another error.
func want(t *testing.T, what string, e, wanted api.Errno) {
	t.Helper()
	if e != wanted {
		t.Errorf("%s: error %d, want %d", what, e, wanted)
	}
}

// shows tells of a disk that shows something else.
func shows(t *testing.T, what string, d disk, wanted string) {
	t.Helper()
	if s := shown(d); s != wanted {
		t.Errorf("%s: %q, want %q", what, s, wanted)
	}
}

// 4.1: names.
func TestName(t *testing.T) {
	for _, s := range []string{"a", "z", "0", "9", "_", ".", "..", "a_1.x", "d_000000006", "new", strings.Repeat("z", 40), strings.Repeat(".", 39) + "9"} {
		if !vfs.Name(s) {
			t.Errorf("%q is no name", s)
		}
	}
	for _, s := range noNames {
		if vfs.Name(s) {
			t.Errorf("%q is a name", s)
		}
	}
	const may = "abcdefghijklmnopqrstuvwxyz0123456789_."
	for c := range 256 {
		one := string([]byte{byte(c)})
		for _, s := range []string{one, "a" + one, one + "a", strings.Repeat("a", 39) + one} {
			if vfs.Name(s) != strings.Contains(may, one) {
				t.Errorf("Name(%q) = %v", s, vfs.Name(s))
			}
		}
	}
	for n := range 100 {
		if s := strings.Repeat("x", n); vfs.Name(s) != (1 <= n && n <= 40) {
			t.Errorf("Name of %d bytes = %v", n, vfs.Name(s))
		}
	}
}

// 4.1: a new disk has no files, and isn't armed; disks know nothing of one another.
func TestNew(t *testing.T) {
	made(t, base).Arm(0, api.ErrDown)
	d := vfs.New()
	if len(d.List()) != 0 || d.Steps() != 0 || d.Down() {
		t.Errorf("a new disk: %q, %d steps, down %v", d.List(), d.Steps(), d.Down())
	}
	for _, call := range []string{"append a x", "sync a", "rename a b", "remove a"} {
		want(t, call, do(d, call), api.ErrNone)
	}
	if _, e := d.Read("a"); e != api.ErrNone {
		t.Errorf("Read: error %d", e)
	}
	want(t, "SyncDir", d.SyncDir(), api.OK)
	want(t, "Create", d.Create(strings.Repeat("a", 40)), api.OK)
	want(t, "Create", d.Create("b"), api.OK)
	if s := lost(vfs.New(), 1); s != "" {
		t.Errorf("a new disk behind a loss: %q", s)
	}
}

// 4.1: a nil disk.
func TestNil(t *testing.T) {
	var d *vfs.Disk
	for _, call := range append(calls, "create A", "rename a B") {
		want(t, call, do(d, call), api.ErrInput)
	}
	for _, e := range []api.Errno{api.OK, api.ErrIO, api.ErrDown} {
		want(t, "Arm", d.Arm(0, e), api.ErrInput)
	}
	for _, loss := range edges {
		want(t, "Restart", d.Restart(loss), api.ErrInput)
	}
	for _, name := range []string{"a", "A", ""} {
		if s, e := d.Read(name); s != "" || e != api.ErrInput {
			t.Errorf("Read(%q) = %q, error %d", name, s, e)
		}
	}
	d.Calm()
	if d.Steps() != 0 || d.Down() || len(d.List()) != 0 {
		t.Errorf("a nil disk: %d steps, down %v, %q", d.Steps(), d.Down(), d.List())
	}
}

// 4.2: what Arm refuses; what is refused leaves the fault that was there.
func TestArmInput(t *testing.T) {
	for e := api.Errno(-2); e < 30; e++ {
		d := vfs.New()
		for _, n := range []int{-1, -2, math.MinInt, 0, 1, math.MaxInt} {
			wanted := api.OK
			if n < 0 || !slices.Contains(faults, e) {
				wanted = api.ErrInput
			}
			want(t, "Arm", d.Arm(n, e), wanted)
		}
	}
	d := vfs.New()
	d.Arm(1, api.ErrFull)
	want(t, "Arm below 0", d.Arm(-1, api.ErrIO), api.ErrInput)
	want(t, "Arm without a fault", d.Arm(0, api.OK), api.ErrInput)
	want(t, "Arm with none", d.Arm(0, api.ErrNone), api.ErrInput)
	want(t, "the first", d.Create("a"), api.OK)
	want(t, "the second", d.Create("b"), api.ErrFull)
	d = vfs.New()
	d.Arm(-1, api.ErrIO)
	want(t, "a disk that isn't armed", d.Create("a"), api.OK)
}

// 4.2: so many changes are done; then the fault comes, once.
func TestFaultComesOnce(t *testing.T) {
	for _, fault := range []api.Errno{api.ErrIO, api.ErrFull} {
		for n := range 10 {
			d := made(t, "create a")
			want(t, "Arm", d.Arm(n, fault), api.OK)
			for i := range 20 {
				wanted := api.OK
				if i == n {
					wanted = fault
				}
				want(t, "Append", d.Append("a", "x"), wanted)
			}
			if d.Steps() != 20 || d.Down() {
				t.Errorf("%d steps, down %v", d.Steps(), d.Down())
			}
			shows(t, "behind the fault", d, "a="+strings.Repeat("x", 19))
		}
	}
}

// 4.2: another Arm takes the place of one, and Calm takes it away; neither brings back one that has come.
func TestArmAgain(t *testing.T) {
	d := vfs.New()
	d.Arm(0, api.ErrDown)
	d.Arm(2, api.ErrIO)
	d.Arm(1, api.ErrFull)
	for _, wanted := range []api.Errno{api.OK, api.ErrFull, api.OK, api.OK, api.OK} {
		want(t, "Create", d.Create("a"), wanted)
	}
	d.Arm(1, api.ErrIO)
	want(t, "Create", d.Create("a"), api.OK)
	d.Arm(1, api.ErrIO)
	for _, wanted := range []api.Errno{api.OK, api.ErrIO, api.OK} {
		want(t, "Create", d.Create("a"), wanted)
	}
	d.Arm(1, api.ErrDown)
	d.Create("a")
	d.Calm()
	for range 5 {
		want(t, "behind Calm", d.Create("a"), api.OK)
	}
	d.Arm(math.MaxInt, api.ErrDown)
	for range 5 {
		want(t, "a fault far away", d.Create("a"), api.OK)
	}
	d.Calm()
	d.Calm()
	want(t, "calmed twice", d.Create("a"), api.OK)
}

// 4.2: calls that are refused are no changes, and don't bring the fault; nor do calls that are none of the six.
func TestRefusedCallsDontCount(t *testing.T) {
	for _, fault := range faults {
		d := made(t, "create a")
		d.Arm(1, fault)
		for range 3 {
			for _, call := range []string{"append b x", "sync b", "rename b a", "remove b"} {
				want(t, call, do(d, call), api.ErrNone)
			}
			for _, call := range []string{"create B", "append A x", "sync A", "rename a B", "rename B a", "remove A"} {
				want(t, call, do(d, call), api.ErrInput)
			}
			d.Read("a")
			d.List()
		}
		if d.Steps() != 1 || d.Down() {
			t.Errorf("%d steps, down %v", d.Steps(), d.Down())
		}
		want(t, "the first", d.Append("a", "x"), api.OK)
		want(t, "refused ahead of the fault", d.Append("b", "x"), api.ErrNone)
		want(t, "refused ahead of the fault", d.Append("B", "x"), api.ErrInput)
		want(t, "the fault", d.Append("a", "y"), fault)
		if d.Steps() != 2 {
			t.Errorf("%d steps", d.Steps())
		}
	}
}

// 4.2: each of the six calls meets the fault, and does nothing then that any loss could show.
func TestFaultDoesNothing(t *testing.T) {
	for _, call := range calls {
		for _, fault := range faults {
			armed := func() disk {
				d := made(t, base)
				d.Arm(0, fault)
				steps := d.Steps()
				want(t, call, do(d, call), fault)
				if d.Steps() != steps || d.Down() != (fault == api.ErrDown) {
					t.Errorf("%s: %d steps of %d, down %v", call, d.Steps(), steps, d.Down())
				}
				if fault == api.ErrDown {
					want(t, call, do(d, call), api.ErrDown)
					d.Restart(1)
				}
				return d
			}
			calm := func() disk {
				d := made(t, base)
				if fault == api.ErrDown {
					d.Restart(1)
				}
				return d
			}
			same(t, call, armed, calm)
		}
		if slices.Equal(left(t, base), left(t, base+";"+call)) && shown(made(t, base)) == shown(made(t, base+";"+call)) {
			t.Errorf("%s is not to be seen", call)
		}
	}
}

// 4.2: Steps counts each change, whatever it does; a loss takes none of them away.
func TestSteps(t *testing.T) {
	d := vfs.New()
	for i, call := range []string{"create a", "create a", "append a x", "append a", "sync a", "sync a", "rename a a", "rename a b", "syncdir", "syncdir", "remove b"} {
		want(t, call, do(d, call), api.OK)
		if d.Steps() != i+1 {
			t.Errorf("%s: %d steps, want %d", call, d.Steps(), i+1)
		}
	}
	d.Restart(1)
	if d.Steps() != 11 {
		t.Errorf("behind a loss: %d steps", d.Steps())
	}
	d.Create("a")
	d.Arm(0, api.ErrDown)
	d.Create("a")
	d.Create("a")
	if d.Steps() != 12 {
		t.Errorf("of one that has stopped: %d steps", d.Steps())
	}
}

// 4.2, 4.3, 4.4: a machine that has stopped refuses all but what tells of it, till it goes on.
func TestDown(t *testing.T) {
	d := made(t, "create a;append a x;sync a;create b;syncdir")
	d.Arm(0, api.ErrDown)
	if d.Down() {
		t.Error("down ahead of the fault")
	}
	want(t, "the fault", d.SyncDir(), api.ErrDown)
	for range 2 {
		for _, call := range []string{"create c", "create a", "append a x", "sync a", "rename a c", "remove a", "syncdir", "append c x", "sync c", "rename c a", "remove c"} {
			want(t, call, do(d, call), api.ErrDown)
		}
		for _, call := range []string{"create C", "append A x", "sync A", "rename A b", "rename a B", "rename c B", "remove A"} {
			want(t, call, do(d, call), api.ErrInput)
		}
		for name, wanted := range map[string]api.Errno{"a": api.ErrDown, "c": api.ErrDown, "A": api.ErrInput, "": api.ErrInput} {
			if s, e := d.Read(name); s != "" || e != wanted {
				t.Errorf("Read(%q) = %q, error %d", name, s, e)
			}
		}
		if !d.Down() || d.Steps() != 5 || len(d.List()) != 0 {
			t.Errorf("down %v, %d steps, %q", d.Down(), d.Steps(), d.List())
		}
		d.Calm()
	}
	want(t, "Arm", d.Arm(0, api.ErrFull), api.OK)
	want(t, "Arm", d.Arm(-1, api.ErrFull), api.ErrInput)
	want(t, "armed", d.Create("c"), api.ErrDown)
	want(t, "Restart", d.Restart(0), api.OK)
	if d.Down() {
		t.Error("down behind Restart")
	}
	shows(t, "behind Restart", d, "a=x b=")
	want(t, "not armed any more", d.Create("c"), api.OK)
}

// 4.3: names that are none are refused ahead of all else, at each call and each place.
func TestNoNames(t *testing.T) {
	stopped := made(t, base)
	stopped.Arm(0, api.ErrDown)
	stopped.SyncDir()
	armed := made(t, base)
	armed.Arm(0, api.ErrIO)
	for _, d := range []*vfs.Disk{vfs.New(), made(t, base), stopped, armed} {
		steps, was := d.Steps(), shown(d)
		for _, s := range noNames {
			want(t, "Create", d.Create(s), api.ErrInput)
			want(t, "Append", d.Append(s, "x"), api.ErrInput)
			want(t, "Sync", d.Sync(s), api.ErrInput)
			want(t, "Rename from", d.Rename(s, "a"), api.ErrInput)
			want(t, "Rename to", d.Rename("a", s), api.ErrInput)
			want(t, "Rename none to", d.Rename("none", s), api.ErrInput)
			want(t, "Rename both", d.Rename(s, s), api.ErrInput)
			want(t, "Remove", d.Remove(s), api.ErrInput)
			if got, e := d.Read(s); got != "" || e != api.ErrInput {
				t.Errorf("Read(%q) = %q, error %d", s, got, e)
			}
		}
		if d.Steps() != steps || shown(d) != was {
			t.Errorf("what is refused is seen: %d steps of %d, %q", d.Steps(), steps, shown(d))
		}
	}
	want(t, "the fault is still there", armed.SyncDir(), api.ErrIO)
}

// 4.3, 4.4: what each change does to what is there.
func TestChanges(t *testing.T) {
	for _, c := range []struct{ calls, wanted string }{
		{"create a", "a="},
		{"create a;append a one", "a=one"},
		{"create a;append a one;append a two;append a;append a 3", "a=onetwo3"},
		{"create a;append a one;create a", "a="},
		{"create a;append a one;sync a;syncdir;create a;append a x", "a=x"},
		{"create b;create a;append a one;append b two", "a=one b=two"},
		{"create a;append a one;sync a;append a two;syncdir", "a=onetwo"},
		{"create a;append a one;rename a b", "b=one"},
		{"create a;append a one;rename a b;append b two;create a", "a= b=onetwo"},
		{"create a;append a one;create b;append b two;rename a b", "b=one"},
		{"create a;append a one;create b;append b two;rename b a;append a 3", "a=two3"},
		{"create a;append a one;rename a a", "a=one"},
		{"create a;append a one;rename a a;append a two;rename a b;rename b a", "a=onetwo"},
		{"create a;create b;append b x;remove a", "b=x"},
		{"create a;append a one;remove a;create a;append a x", "a=x"},
		{"create a;remove a;syncdir", ""},
		{"create z;create a0;create a;create a.;create a_;create 0;create .;create _;create aa;create 10", ".= 0= 10= _= a= a.= a0= a_= aa= z="},
	} {
		shows(t, c.calls, made(t, c.calls), c.wanted)
	}
	for _, call := range []string{"append a x", "sync a", "rename a b", "rename a a", "remove a"} {
		d := made(t, "create a;append a one;sync a;create b;syncdir;remove a")
		want(t, call, do(d, call), api.ErrNone)
		shows(t, call, d, "b=")
		d = made(t, "create a;append a one;rename a b")
		want(t, call, do(d, call), api.ErrNone)
		shows(t, call, d, "b=one")
	}
}

// 4.3: any bytes are kept as they are.
func TestBytes(t *testing.T) {
	all := make([]byte, 256)
	for i := range all {
		all[i] = byte(i)
	}
	d := made(t, "create a")
	for range 3 {
		want(t, "Append", d.Append("a", string(all)), api.OK)
	}
	if s, e := d.Read("a"); s != strings.Repeat(string(all), 3) || e != api.OK {
		t.Errorf("Read = % x, error %d", s, e)
	}
}

// 4.3: two names that stand for one file (a loss has left both); what is done by one of them is seen by the other.
func TestTwoNames(t *testing.T) {
	const both = -1 // the loss whose row begins with an even number and an odd one
	for _, c := range []struct{ calls, wanted string }{
		{"append a two", "a=onetwo b=onetwo"},
		{"append a two;append b 3", "a=onetwo3 b=onetwo3"},
		{"append b two;sync a;append b 3;syncdir", "a=onetwo3 b=onetwo3"},
		{"create a;append a x", "a=x b=one"},
		{"remove a;append b two", "b=onetwo"},
		{"remove b", "a=one"},
		{"rename a b", "b=one"},
		{"rename b a;append a two", "a=onetwo"},
		{"rename a c;append b two", "b=onetwo c=onetwo"},
		{"rename a a", "a=one b=one"},
	} {
		d := made(t, "create a;append a one;sync a;syncdir;rename a b")
		d.Restart(both)
		shows(t, "two names", d, "a=one b=one")
		want(t, c.calls, doAll(d, c.calls), api.OK)
		shows(t, c.calls, d, c.wanted)
	}
	for loss := range manyLosses {
		d := made(t, "create a;append a one;sync a;syncdir;rename a b")
		d.Restart(both)
		doAll(d, "append a two;sync b;append a 345")
		parts := strings.Fields(lost(d, loss))
		if len(parts) != 2 || !strings.HasPrefix(parts[0], "a=onetwo") || parts[1] != "b"+parts[0][1:] {
			t.Fatalf("behind the loss %d: %q", loss, parts)
		}
		doAll(d, "append b z;sync b")
		if s := shown(d); lost(d, loss+1) != s {
			t.Fatalf("synced by the other name, behind the loss %d: %q, want %q", loss+1, shown(d), s)
		}
	}
}

// 4.4, and rule 4: what is handed out is the caller's.
func TestHandedOut(t *testing.T) {
	d := made(t, "create c;create a;create b;append b 12345")
	list := d.List()
	list = list[:cap(list)]
	for i := range list {
		list[i] = "x"
	}
	if again := d.List(); !slices.Equal(again, []string{"a", "b", "c"}) {
		t.Errorf("List = %q", again)
	}
	doAll(d, "sync a;sync c;syncdir")
	s, _ := d.Read("b")
	for loss := range 20 {
		d.Restart(loss)
		d.Append("b", "abcdefg")
	}
	if s != "12345" {
		t.Errorf("what was read is %q", s)
	}
}

// 4.5: the rows, by the lengths that they leave of files whose names are sure. These are the numbers of a generator
// that is known by the name of splitmix64, of which mix is one way of telling.
func TestRows(t *testing.T) {
	const most = 65520 // one less than a prime: all bits play a part
	for loss, row := range map[int][]uint64{
		0:       {0xe220a8397b1dcdaf, 0x6e789e6aa1b965f4, 0x06c45d188009454f, 0xf88bb8a8724c81ec, 0x1b39896a51a8749b},
		1:       {0x910a2dec89025cc1, 0xbeeb8da1658eec67, 0xf893a2eefb32555e, 0x71c18690ee42c90b},
		-1:      {0xe4d971771b652c20, 0xe99ff867dbf682c9, 0x382ff84cb27281e9},
		1234567: {6457827717110365317, 3203168211198807973, 9817491932198370423, 4593380528125082431, 16408922859458223821},
	} {
		d := vfs.New()
		for i := range row {
			name := string([]byte{byte('z' - i)}) // files are made in another order than their names'
			doAll(d, "create "+name+";append "+name+" "+strings.Repeat("x", most))
		}
		d.SyncDir()
		d.Restart(loss)
		for i, n := range row {
			name := string([]byte{byte('z' - len(row) + 1 + i)})
			if s, _ := d.Read(name); len(s) != int(n%(most+1)) {
				t.Errorf("loss %d, number %d: %d bytes, want %d", loss, i+1, len(s), n%(most+1))
			}
		}
	}
}

// 4.5: what losses leave, reckoned by hand. Of the rows of 0, 1, 2, 3 and -1 the first numbers are odd or even
// (1 or 0): 101010, 110110, 001011, 111101, 011001; their rests by 4: 303032, 132310, 223013, 111323, 011223; by 3:
// 101110, 210202, 120010, 000201, 201001.
func TestRestart(t *testing.T) {
	for _, c := range []struct {
		loss          int
		calls, wanted string
	}{
		{0, "create b;append b xyz;create a;append a xyz;create c;append c xyz", "a= c=xyz"},
		{1, "create b;append b xyz;create a;append a xyz;create c;append c xyz", "a=xyz b=x"},
		{2, "create b;append b xyz;create a;append a xyz;create c;append c xyz", "c="},
		{3, "create b;append b xyz;create a;append a xyz;create c;append c xyz", "a=xyz b=xy c=xyz"},
		{-1, "create b;append b xyz;create a;append a xyz;create c;append c xyz", "b=xy c=xy"},
		// A name that stands for one file takes no number, nor does a file whose bytes are sure.
		{2, "create a;append a xyz;syncdir;create b;append b xyz", "a=xy"},
		{0, "create a;append a xyz;sync a;syncdir;create b;append b xyz", "a=xyz b="},
		{0, "create a;append a xyz;sync a;create b;create c;append c xyz;syncdir", "a=xyz b= c=xyz"},
		{1, "create a;append a one;sync a;append a xyz;syncdir", "a=onex"},
		// A name that is gone, and one that is sure and stands for another file.
		{0, "create a;append a xyz;sync a;syncdir;remove a", ""},
		{2, "create a;append a xyz;sync a;syncdir;remove a", "a=xyz"},
		{0, "create a;append a xyz;sync a;syncdir;create a;append a uv", "a="},
		{2, "create a;append a xyz;sync a;syncdir;create a;append a uv", "a=xyz"},
		{2, "create a;append a xyz;syncdir;create a;append a uv;sync a", "a=xy"},
		{3, "create a;append a xyz;syncdir;create a;append a uv;sync a", "a=uv"},
		// One file by two names loses once.
		{-1, "create a;append a xy;syncdir;rename a b", "a=x b=x"},
		{-1, "create a;append a xy;syncdir;rename a b;create c;append c xyz", "a= b= c=xy"},
		{1, "create a;append a xy;syncdir;rename a b", "b="},
		{0, "create a;append a xy;syncdir;rename a b", ""},
		{2, "create a;append a xy;syncdir;rename a b", "a="},
	} {
		d := made(t, c.calls)
		want(t, c.calls, d.Restart(c.loss), api.OK)
		shows(t, c.calls, d, c.wanted)
	}
}

// 4.5: all that is left of a disk is sure.
func TestLeftIsSure(t *testing.T) {
	for loss := range manyLosses {
		d := made(t, base)
		is := lost(d, loss)
		for _, again := range append(edges, loss, loss+1, loss+2, loss+3) {
			if s := lost(d, again); s != is {
				t.Fatalf("behind the loss %d %q, behind %d %q", loss, is, again, s)
			}
		}
	}
}

// 4.5: behind Restart the disk isn't armed, and the machine goes on, stopped or not.
func TestRestartGoesOn(t *testing.T) {
	for _, fault := range faults {
		for _, n := range []int{0, 1, 3} {
			d := made(t, "create a;append a one;sync a;syncdir")
			d.Arm(n, fault)
			doAll(d, "append a x;append a y")
			want(t, "Restart", d.Restart(n), api.OK)
			for range 5 {
				want(t, "Append", d.Append("a", "z"), api.OK)
			}
			if s, _ := d.Read("a"); d.Down() || !strings.HasPrefix(s, "one") || !strings.HasSuffix(s, "zzzzz") {
				t.Errorf("down %v, %q", d.Down(), s)
			}
		}
	}
}

// 4.5: any loss is taken, and answered the same each time.
func TestAnyLoss(t *testing.T) {
	for _, loss := range edges {
		p := &plain{}
		doAll(p, base)
		if a, b := lost(made(t, base), loss), lost(p, loss); a != b {
			t.Errorf("behind the loss %d: %q, want %q", loss, a, b)
		}
	}
	same(t, "made twice", func() disk { return made(t, base) }, func() disk { return made(t, base) })
}

// 4.2 to 4.5: scripts by chance, held against a disk as the chapter tells it.
func TestAgainstPlain(t *testing.T) {
	names := []string{"a", "b", "c", "d"}
	for seed := range uint64(4000) {
		chance := rand.New(rand.NewPCG(seed, 4))
		name := func() string { return names[chance.IntN(len(names))] }
		d, p := vfs.New(), &plain{}
		told := ""
		for range 40 {
			call := [...]string{"create " + name(), "append " + name() + " " + "wxyzwxyz"[chance.IntN(8):], "sync " + name(), "rename " + name() + " " + name(), "remove " + name(), "syncdir"}[chance.IntN(6)]
			switch chance.IntN(12) {
			case 0:
				n, fault := chance.IntN(6), faults[chance.IntN(3)]
				d.Arm(n, fault)
				p.Arm(n, fault)
				told += " arm"
			case 1:
				loss := int(chance.Uint64()) >> chance.IntN(64)
				d.Restart(loss)
				p.Restart(loss)
				told += " restart"
			case 2:
				d.Calm()
				p.Calm()
				told += " calm"
			default:
				told += " " + call + ";"
				if a, b := do(d, call), do(p, call); a != b {
					t.Fatalf("seed %d,%s: error %d, want %d", seed, told, a, b)
				}
			}
			if shown(d) != shown(p) || d.Steps() != p.Steps() || d.Down() != p.Down() {
				t.Fatalf("seed %d,%s: %q, %d steps, down %v; want %q, %d, %v", seed, told, shown(d), d.Steps(), d.Down(), shown(p), p.Steps(), p.Down())
			}
		}
	}
}

// 4.5: losses leave all that may be left, and nothing else: the chapter's example, and what isn't sure of bytes and names.
func TestAllThatIsLeft(t *testing.T) {
	for _, c := range []struct {
		calls  string
		wanted []string
	}{
		{"create a;append a one;sync a;syncdir;rename a b", []string{"", "a=one", "a=one b=one", "b=one"}},
		{"create a;append a one;sync a;syncdir;rename a a", []string{"a=one"}},
		{"create a;append a one;sync a", []string{"", "a=one"}},
		{"create a;append a one;syncdir", []string{"a=", "a=o", "a=on", "a=one"}},
		{"create a;append a one;sync a;syncdir;append a two", []string{"a=one", "a=onet", "a=onetw", "a=onetwo"}},
		{"create a;append a one;sync a;syncdir;remove a", []string{"", "a=one"}},
		{"create a;append a one;sync a;syncdir;create a;append a x", []string{"a=", "a=one", "a=x"}},
		{"create a;append a one;sync a;create b;append b x;sync b;syncdir;rename b a", []string{"a=one", "a=one b=x", "a=x", "a=x b=x"}},
		{"create a;append a one;sync a;create b;append b x;sync b;syncdir;rename b a;syncdir", []string{"a=x"}},
		{"create a;syncdir;remove a;syncdir", []string{""}},
	} {
		if all := left(t, c.calls); !slices.Equal(all, c.wanted) {
			t.Errorf("%s: %q, want %q", c.calls, all, c.wanted)
		}
	}
}

// 4.6: what was synced, bytes and name, is there behind every loss, whatever was done since to other names, and behind its bytes.
func TestSyncedIsThere(t *testing.T) {
	for _, since := range []string{
		"syncdir", "append a x", "append a x;sync a", "create b;append b x;rename b c;remove c", "create b;syncdir;rename b c;syncdir;remove c",
		"create b;sync b;append a x;append a y;syncdir", "rename a a", "rename a a;syncdir",
	} {
		for n := range 8 {
			for _, fault := range faults {
				for loss := range manyLosses {
					d := made(t, "create a;append a one;sync a;syncdir")
					d.Arm(n, fault)
					doAll(d, since)
					d.Restart(loss)
					if s, e := d.Read("a"); e != api.OK || !strings.HasPrefix(s, "one") {
						t.Fatalf("%s, stopped behind %d, loss %d: %q, error %d", since, n, loss, s, e)
					}
				}
			}
		}
	}
}

// 4.6: a file that is written beside another and takes its place: the old bytes or the new ones, whole, wherever it stops; the new ones, once the names are synced.
func TestTakesPlace(t *testing.T) {
	const swap = "create new;append new some;append new more;sync new;rename new a;syncdir"
	for _, ahead := range []string{
		"create a;append a one;sync a;syncdir",
		"create a;append a one;sync a;create new;append new rest;syncdir",
		"create a;append a one;sync a;create new;append new rest;sync new;syncdir;remove new",
	} {
		for n := range 7 {
			for _, fault := range faults {
				seen := map[string]int{}
				for loss := range manyLosses {
					d := made(t, ahead)
					d.Arm(n, fault)
					if e := doAll(d, swap); (e == api.OK) != (n == 6) {
						t.Fatalf("stopped behind %d: error %d", n, e)
					}
					d.Restart(loss)
					s, _ := d.Read("a")
					seen[s]++
				}
				wanted := 1
				if n == 5 {
					wanted = 2
				}
				if n < 6 && seen["one"] == 0 || n > 4 && seen["somemore"] == 0 || len(seen) != wanted {
					t.Errorf("%s; stopped behind %d: %v", ahead, n, seen)
				}
			}
		}
	}
}

// The chapter's example of a fault: one change is done, the next is ErrFull, the one behind it is done.
func TestExample(t *testing.T) {
	d := made(t, "create a")
	want(t, "Arm", d.Arm(1, api.ErrFull), api.OK)
	want(t, "one", d.Append("a", "1"), api.OK)
	want(t, "the next", d.Append("a", "2"), api.ErrFull)
	want(t, "the one behind it", d.Append("a", "3"), api.OK)
	shows(t, "behind the fault", d, "a=13")
}
