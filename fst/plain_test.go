package fst_test

import (
	"fmt"
	"maps"
	"math"
	"math/rand/v2"
	"slices"
	"strings"

	"gloss/api"
	"gloss/fst"
	"gloss/tuple"
)

// entry is one of a list.
func entry(term string, out int) api.Entry {
	return api.Entry{Term: term, Out: out}
}

// listOf answers terms in their order, each with the number that one is told for it.
func listOf(terms []string, out func(i int) int) []api.Entry {
	var list []api.Entry
	for i, term := range slices.Sorted(slices.Values(terms)) {
		list = append(list, entry(term, out(i)))
	}
	return list
}

// firstError answers the error of a list that may not be built, as the chapter tells it.
func firstError(list []api.Entry) api.Errno {
	if len(list) > 65536 {
		return api.ErrMany
	}
	for i, t := range list {
		if len(t.Term) == 0 || t.Out < 0 {
			return api.ErrInput
		}
		if len(t.Term) > 64 {
			return api.ErrLimit
		}
		if i > 0 && strings.Compare(list[i-1].Term, t.Term) >= 0 {
			return api.ErrForm
		}
	}
	return api.OK
}

// restsOf answers the rests behind a beginning of terms, and the least number of these terms.
func restsOf(list []api.Entry, begin string) (rests []api.Entry, least int) {
	least = math.MaxInt
	for _, t := range list {
		if rest, ok := strings.CutPrefix(t.Term, begin); ok {
			rests = append(rests, entry(rest, t.Out))
			least = min(least, t.Out)
		}
	}
	for i := range rests {
		rests[i].Out -= least
	}
	return rests, least
}

// nodesOf answers the nodes of a list that may be built, in their order, and the least number of all terms, as the
// chapter tells them: nodes are found by their rests.
func nodesOf(list []api.Entry) (nodes []api.Node, least int) {
	if len(list) == 0 {
		return nil, 0
	}
	places := map[string]int{}
	var tell func(begin string) (place, least int)
	tell = func(begin string) (place, least int) {
		rests, least := restsOf(list, begin)
		name := fmt.Sprintf("%x", rests)
		if place, met := places[name]; met {
			return place, least
		}
		var n api.Node
		first := map[int]bool{}
		for _, r := range rests {
			if r.Term == "" {
				n.Final, n.Out = true, r.Out
			} else {
				first[int(r.Term[0])] = true
			}
		}
		for _, c := range slices.Sorted(maps.Keys(first)) {
			to, more := tell(begin + string([]byte{byte(c)}))
			n.Ways = append(n.Ways, api.Way{C: c, Out: more - least, To: to})
		}
		nodes = append(nodes, n)
		places[name] = len(nodes) - 1
		return len(nodes) - 1, least
	}
	_, least = tell("")
	return nodes, least
}

// written answers the bytes of nodes, whether they may be or not.
func written(nodes []api.Node, least int) string {
	nums := []int{len(nodes), least}
	for _, n := range nodes {
		if n.Final {
			nums = append(nums, 2*len(n.Ways)+1, n.Out)
		} else {
			nums = append(nums, 2*len(n.Ways))
		}
		for _, w := range n.Ways {
			nums = append(nums, w.C, w.Out, w.To)
		}
	}
	return tuple.Nums(nums...)
}

// sum answers what two numbers are together; -1, if one of them is below 0 or it has more than 63 bits.
func sum(a, b int) int {
	if a < 0 || b < 0 || a > math.MaxInt-b {
		return -1
	}
	return a + b
}

// told answers the entries that bytes tell, or the first error that the chapter names for them. The rests behind each node
// are written out.
func told(s string) (list []api.Entry, e api.Errno) {
	defer func() {
		if p := recover(); p != nil {
			list, e = nil, p.(api.Errno)
		}
	}()
	cursor := tuple.At(s)
	count := func() int {
		n, e := cursor.Count()
		if e != api.OK {
			panic(e)
		}
		return n
	}
	may := func(ok bool, e api.Errno) {
		if !ok {
			panic(e)
		}
	}
	nodes, least := count(), count()
	var behind [][]api.Entry
	for at := range nodes {
		var rests []api.Entry
		head := count()
		may(head <= 513, api.ErrForm)
		if head%2 == 1 {
			rests = append(rests, entry("", count()))
		}
		for range head / 2 {
			c, out, to := count(), count(), count()
			may(c <= 255 && to < at, api.ErrForm)
			for _, r := range behind[to] {
				rests = append(rests, entry(string([]byte{byte(c)})+r.Term, sum(out, r.Out)))
			}
		}
		may(len(rests) <= 65536, api.ErrForm)
		may(!slices.ContainsFunc(rests, func(r api.Entry) bool { return len(r.Term) > 64 }), api.ErrForm)
		behind = append(behind, rests)
	}
	may(cursor.Rest() == "", api.ErrTail)
	if nodes > 0 {
		list = slices.Clone(behind[nodes-1])
	}
	for i := range list {
		list[i].Out = sum(list[i].Out, least)
	}
	may(firstError(list) == api.OK && written(nodesOf(list)) == s, api.ErrForm)
	return list, api.OK
}

// walked answers the entries that one comes to by Root and Node.
func walked(d *fst.Dict) []api.Entry {
	var list []api.Entry
	var walk func(at int, begin string, out int)
	walk = func(at int, begin string, out int) {
		n, _ := d.Node(at)
		if n.Final {
			list = append(list, entry(begin, out+n.Out))
		}
		for _, w := range n.Ways {
			walk(w.To, begin+string([]byte{byte(w.C)}), out+w.Out)
		}
	}
	root, out := d.Root()
	walk(root, "", out)
	return list
}

// sameNode tells whether two nodes are alike.
func sameNode(a, b api.Node) bool {
	return a.Final == b.Final && a.Out == b.Out && slices.Equal(a.Ways, b.Ways)
}

// copyOf answers nodes that share nothing with those given.
func copyOf(nodes []api.Node) []api.Node {
	out := slices.Clone(nodes)
	for i := range out {
		out[i].Ways = slices.Clone(out[i].Ways)
	}
	return out
}

// changed answers what nodes are behind a change of their ways.
func changed(nodes []api.Node, change func(w api.Way) api.Way) []api.Node {
	out := copyOf(nodes)
	for i := range out {
		for k := range out[i].Ways {
			out[i].Ways[k] = change(out[i].Ways[k])
		}
	}
	return out
}

// putIn answers nodes with one more at a place; the ways lead to the nodes to which they led.
func putIn(nodes []api.Node, place int, n api.Node) []api.Node {
	out := changed(nodes, func(w api.Way) api.Way {
		if w.To >= place {
			w.To++
		}
		return w
	})
	return slices.Insert(out, place, copyOf([]api.Node{n})...)
}

// moved answers nodes of which the i-th stands at the place that is told for it; the ways lead where they led.
func moved(nodes []api.Node, places []int) []api.Node {
	out := make([]api.Node, len(nodes))
	for i, n := range changed(nodes, func(w api.Way) api.Way { w.To = places[w.To]; return w }) {
		out[places[i]] = n
	}
	return out
}

// orders answers all orders of the numbers below n.
func orders(n int) [][]int {
	if n == 0 {
		return [][]int{{}}
	}
	var all [][]int
	for _, order := range orders(n - 1) {
		for i := range n {
			all = append(all, slices.Insert(slices.Clone(order), i, n-1))
		}
	}
	return all
}

// numbersOf answers the numbers that bytes are.
func numbersOf(s string) []int {
	var list []int
	c := tuple.At(s)
	for c.Rest() != "" {
		n, _ := c.Num()
		list = append(list, n)
	}
	return list
}

// textsOf answers all texts of one to so many of some bytes.
func textsOf(from string, most int) []string {
	var all []string
	last := []string{""}
	for range most {
		var longer []string
		for _, s := range last {
			for i := range len(from) {
				longer = append(longer, s+from[i:i+1])
			}
		}
		all, last = append(all, longer...), longer
	}
	return all
}

// fewNumbers are numbers of few and of many bits.
var fewNumbers = []int{0, 0, 1, 1, 2, 3, 111, 112, 113, 255, 256, 1 << 20, 1 << 40, math.MaxInt - 1, math.MaxInt}

// drawnText draws a text of few bytes.
func drawnText(r *rand.Rand, from string, most int) string {
	s := make([]byte, 1+r.IntN(most))
	for i := range s {
		s[i] = from[r.IntN(len(from))]
	}
	return string(s)
}

// drawnList draws a list that may be built. Of few bytes and numbers, many beginnings have the same rests.
func drawnList(r *rand.Rand) []api.Entry {
	from := []string{"ab", "a", "\x00\xff", "abc\x00\xff", "\x7f\x80\x00\x01", "abcdefghijklmnopqrstuvwxyz"}[r.IntN(6)]
	most := []int{1, 2, 3, 4, 8, 64}[r.IntN(6)]
	numbers := fewNumbers[:1+r.IntN(len(fewNumbers))]
	terms := map[string]bool{}
	for range r.IntN(30) {
		terms[drawnText(r, from, most)] = true
	}
	list := listOf(slices.Collect(maps.Keys(terms)), func(int) int { return numbers[r.IntN(len(numbers))] })
	if r.IntN(3) == 0 {
		// Rests that are the same behind other beginnings, and but for one number.
		var more []api.Entry
		for _, begin := range []string{"p", "q"} {
			by := r.IntN(1000)
			for _, t := range list {
				if len(t.Term) < 64 && t.Out < math.MaxInt-1000 {
					more = append(more, entry(begin+t.Term, t.Out+by))
				}
			}
		}
		if len(more) > 0 && r.IntN(2) == 0 {
			more[r.IntN(len(more))].Out++
		}
		list = more
	}
	return list
}

// drawnNodes draws nodes that may be and such as may not: a way leads to a node ahead, most of them.
func drawnNodes(r *rand.Rand) []api.Node {
	var nodes []api.Node
	for at := range r.IntN(6) {
		n := api.Node{Final: at == 0 || r.IntN(4) == 0}
		if n.Final && r.IntN(4) == 0 {
			n.Out = r.IntN(3)
		}
		for range r.IntN(4) {
			n.Ways = append(n.Ways, api.Way{C: 'a' + r.IntN(4), Out: r.IntN(8) / 6, To: r.IntN(at + 1)})
		}
		if r.IntN(4) > 0 {
			slices.SortFunc(n.Ways, func(a, b api.Way) int { return a.C - b.C })
		}
		if at > 0 && r.IntN(8) > 0 {
			n.Ways = slices.DeleteFunc(n.Ways, func(w api.Way) bool { return w.To == at })
		}
		nodes = append(nodes, n)
	}
	return nodes
}
