package parts_test

import (
	"regexp"
	"strconv"
	"strings"
	"testing"

	"putlog/api"
	"putlog/parts"
)

// theText is the text of the chapter's scaffold.
const theText = `node 0 0 0
node 2000 0 0
node 2000 700 0
node 0 700 0
node 0 0 2000
node 2000 0 2000
node 2000 700 2000
node 0 700 2000
member 9 0 0
member 9 1 1
member 9 2 2
member 9 3 3
member 0 0 4
member 0 1 5
member 0 2 6
member 0 3 7
member 6 4 6
`

// P4.7: Print.
func TestPrint(t *testing.T) {
	text, e := parts.Print(theScaffold())
	want(t, "Print", text, e, theText, api.OK)
	text, e = parts.Print(api.Scaffold{})
	want(t, "Print of nothing", text, e, "", api.OK)
	text, e = parts.Print(api.Scaffold{Nodes: nodes(-1000000, 1000000, -7)})
	want(t, "Print of a node", text, e, "node -1000000 1000000 -7\n", api.OK)
	long := column(100, 4000, 0)
	for i := range long.Nodes {
		long.Nodes[i].X = -1000000
	}
	text, e = parts.Print(long)
	wantError(t, "Print of much", e, api.OK)
	for i := range 300 {
		long.Nodes = append(long.Nodes, api.Node{X: -i, Y: -1000000, Z: -1000000})
	}
	text, e = parts.Print(long)
	if e != api.OK || len(text) <= api.MaxText || strings.Count(text, "\n") != 4400 {
		t.Errorf("Print of more: %d bytes, error %d", len(text), e)
	}
}

// P4.7: Parse of texts of scaffolds.
func TestParse(t *testing.T) {
	for _, c := range []struct {
		text string
		s    api.Scaffold
	}{
		{"", api.Scaffold{}},
		{theText, theScaffold()},
		{"node 1000000 -1000000 0\n", api.Scaffold{Nodes: nodes(1000000, -1000000, 0)}},
		{"node 5 0 0\nnode 0 0 0\nmember 1 1 0\nmember 8 0 0\n", api.Scaffold{Nodes: nodes(5, 0, 0, 0, 0, 0), Members: members(1, 1, 0, 8, 0, 0)}},
	} {
		s, line, e := parts.Parse(c.text)
		want(t, "Parse", s, e, c.s, api.OK)
		want(t, "its line", line, e, 0, api.OK)
	}
}

// P4.7: texts that are refused, and the numbers of their lines.
func TestParseErrors(t *testing.T) {
	for _, c := range []struct {
		text string
		line int
		e    api.Errno
	}{
		{"\n", 1, api.ErrSyntax},
		{" \n", 1, api.ErrSyntax},
		{"node 0 0 0", 1, api.ErrSyntax},
		{strings.TrimSuffix(theText, "\n"), 17, api.ErrSyntax},
		{theText + "\n", 18, api.ErrSyntax},
		{theText + "x", 18, api.ErrSyntax},
		{theText + "node 1 1 1\n", 18, api.ErrSyntax},
		{theText + "node 1 1 1\nx\n", 18, api.ErrSyntax},
		{"node 0 0 0\nnode 1 1\nnode 1\n", 2, api.ErrSyntax},
		{"node 0 0 0\n\nnode 1 1 1\n", 2, api.ErrSyntax},
		{"node 0 0\n", 1, api.ErrSyntax},
		{"node 0 0 0 0\n", 1, api.ErrSyntax},
		{"node\n", 1, api.ErrSyntax},
		{"member\n", 1, api.ErrSyntax},
		{"node 0 0 \n", 1, api.ErrSyntax},
		{"node  0 0\n", 1, api.ErrSyntax},
		{"node  0 0 0\n", 1, api.ErrSyntax},
		{" node 0 0 0\n", 1, api.ErrSyntax},
		{"node 0 0 0 \n", 1, api.ErrSyntax},
		{"node\t0 0 0\n", 1, api.ErrSyntax},
		{"node 0 0 0\r\n", 1, api.ErrSyntax},
		{"node 0 0\u00a00\n", 1, api.ErrSyntax},
		{"Node 0 0 0\n", 1, api.ErrSyntax},
		{"nodes 0 0 0\n", 1, api.ErrSyntax},
		{"nod 0 0 0\n", 1, api.ErrSyntax},
		{" 0 0 0\n", 1, api.ErrSyntax},
		{"x 0 0 0\n", 1, api.ErrSyntax},
		{"node 0 0 0 # x\n", 1, api.ErrSyntax},
		{"node +1 0 0\n", 1, api.ErrSyntax},
		{"node 01 0 0\n", 1, api.ErrSyntax},
		{"node 00 0 0\n", 1, api.ErrSyntax},
		{"node -0 0 0\n", 1, api.ErrSyntax},
		{"node -01 0 0\n", 1, api.ErrSyntax},
		{"node - 0 0\n", 1, api.ErrSyntax},
		{"node --1 0 0\n", 1, api.ErrSyntax},
		{"node 1- 0 0\n", 1, api.ErrSyntax},
		{"node 0x1 0 0\n", 1, api.ErrSyntax},
		{"node 1_0 0 0\n", 1, api.ErrSyntax},
		{"node 1.0 0 0\n", 1, api.ErrSyntax},
		{"node 1/ 0 0\n", 1, api.ErrSyntax},
		{"node 1: 0 0\n", 1, api.ErrSyntax},
		{"node \u0661 0 0\n", 1, api.ErrSyntax},
		{"node 0 0 10000000\n", 1, api.ErrSyntax},
		{"node 0 0 -10000000\n", 1, api.ErrSyntax},
		{"node 0 99999999999999999999 0\n", 1, api.ErrSyntax},
		{"member 0 0 a\n", 1, api.ErrSyntax},
		{"member 9 0 0\nnode 0 0 0\n", 2, api.ErrSyntax},
		{"node 0 0 0\nmember 9 0 0\nnode 0 0 0\n", 3, api.ErrSyntax},
		{"node 0 0 0\nnode 0 0 0\nmember 9 0\n", 3, api.ErrSyntax},
		{"node 9999999 0 0\nmember 9 0\n", 2, api.ErrSyntax},
		{"node 9999999 0 0\n", 0, api.ErrRange},
		{"node 0 -9999999 0\n", 0, api.ErrRange},
		{"node 0 0 1000001\n", 0, api.ErrRange},
		{"node 0 0 0\nnode 0 0 0\n", 0, api.ErrExists},
		{"node 0 0 0\nmember -1 0 0\n", 0, api.ErrRange},
		{"node 0 0 0\nmember 10 0 0\n", 0, api.ErrRange},
		{"node 0 0 0\nmember 9 -1 0\n", 0, api.ErrMissing},
		{"node 0 0 0\nmember 9 0 9999999\n", 0, api.ErrMissing},
		{"node 0 0 0\nmember 0 0 0\n", 0, api.ErrForm},
		{"node 0 0 0\nmember 8 0 0\nmember 8 0 0\n", 0, api.ErrExists},
		{"member 9 0 0\n", 0, api.ErrMissing},
		{strings.Repeat("node 0 0 0\n", 1001), 0, api.ErrLarge},
		{strings.Repeat("node 0 0 0\n", 1000), 0, api.ErrExists},
		{strings.Repeat("member 0 0 0\n", 4001), 0, api.ErrLarge},
		{strings.Repeat("member 0 0 0\n", 4000), 0, api.ErrMissing},
		{strings.Repeat("\n", 60000), 1, api.ErrSyntax},
		{strings.Repeat("\n", 60001), 0, api.ErrLarge},
		{strings.Repeat("x", 60000), 1, api.ErrSyntax},
		{strings.Repeat("x", 60001), 0, api.ErrLarge},
	} {
		s, line, e := parts.Parse(c.text)
		if e != c.e || line != c.line || !same(s, api.Scaffold{}) {
			t.Errorf("Parse of %.60q: %v, line %d, error %d; want line %d, error %d", c.text, s, line, e, c.line, c.e)
		}
	}
}

const numberForm = `(0|-?[1-9][0-9]{0,6})`

// lineForm is the form of a line.
var lineForm = regexp.MustCompile(`^(node|member) ` + numberForm + ` ` + numberForm + ` ` + numberForm + `$`)

// parse reads a text by an expression for its lines.
func parse(text string) (api.Scaffold, int, api.Errno) {
	var s api.Scaffold
	lines := strings.Split(text, "\n")
	for i, l := range lines {
		if i == len(lines)-1 {
			if l != "" {
				return api.Scaffold{}, i + 1, api.ErrSyntax // there is no line feed
			}
			break
		}
		found := lineForm.FindStringSubmatch(l)
		if found == nil || found[1] == "node" && len(s.Members) > 0 {
			return api.Scaffold{}, i + 1, api.ErrSyntax
		}
		var n [3]int
		for k := range n {
			n[k], _ = strconv.Atoi(found[k+2])
		}
		if found[1] == "node" {
			s.Nodes = append(s.Nodes, nodes(n[0], n[1], n[2])...)
		} else {
			s.Members = append(s.Members, member(n[0], n[1], n[2]))
		}
	}
	if e := parts.Check(s); e != api.OK {
		return api.Scaffold{}, 0, e
	}
	return s, 0, api.OK
}

// P4.7: Parse of texts in which some bytes are others.
func TestParseOfAll(t *testing.T) {
	d := dice()
	const bytes = " \n-0179nodemember\r\t+"
	count := map[api.Errno]int{}
	for range 10000 {
		text := []byte(theText)
		if d.Intn(2) == 0 {
			text = text[len("node 0 0 0\n"):]
		}
		for range d.Intn(3) {
			i := d.Intn(len(text))
			switch d.Intn(3) {
			case 0:
				text[i] = bytes[d.Intn(len(bytes))]
			case 1:
				text = append(text[:i], text[i+1:]...)
			default:
				text = append(text[:i], append([]byte{bytes[d.Intn(len(bytes))]}, text[i:]...)...)
			}
		}
		right, f, e := parse(string(text))
		s, line, g := parts.Parse(string(text))
		if g != e || line != f || !same(s, right) {
			t.Fatalf("Parse of %q: %v, line %d, error %d; want %v, line %d, error %d", text, s, line, g, right, f, e)
		}
		count[e]++
	}
	for _, e := range []api.Errno{api.OK, api.ErrSyntax, api.ErrRange, api.ErrMissing, api.ErrForm} {
		if count[e] < 5 {
			t.Errorf("error %d came %d times", e, count[e])
		}
	}
}
