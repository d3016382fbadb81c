package syntax

import (
	"bytes"
	"slices"
	"sort"
	"strings"

	"bulkhead/api"
	"bulkhead/scan"
)

// rules is the grammar, each rule a list of choices, each choice a row of
// symbols: a rule's name in capitals, or a terminal. X* is any number of X.
func rules() map[string][][]string {
	g := map[string][][]string{}
	add := func(name string, choices ...string) {
		for _, c := range choices {
			g[name] = append(g[name], strings.Fields(c))
		}
	}
	add("POLICY", "system NAME { GROUP-OR-ITEM* }")
	add("GROUP-OR-ITEM", "GROUP", "ITEM")
	add("GROUP", "group NAME ( NAMES ) { ITEM* }")
	add("NAMES", "", "NAME MORE-NAME*")
	add("MORE-NAME", ", NAME")
	add("EXPRS", "", "EXPR MORE-EXPR*")
	add("MORE-EXPR", ", EXPR")
	add("ITEM", "use NAME ( EXPRS ) ;", "ram EXPR size EXPR ;", "device REF at EXPR size EXPR DMA",
		"region REF size EXPR FIXED BIG WX FILL ;", "subject REF cpu EXPR STOPPED { PART* }",
		"channel REF from REF to REF OVER EFFECT ;", "irq REF from REF to REF vector EXPR MASKED ;",
		"plan REF major EXPR { LANE* }", "master REF ;", "start REF ;")
	add("DMA", ";", "dma { REACH* }")
	add("FIXED", "", "at EXPR")
	add("BIG", "", "big")
	add("WX", "", "wx")
	add("FILL", "", "fill EXPR", "fill TEXT")
	add("STOPPED", "", "stopped")
	add("OVER", "", "over REF")
	add("EFFECT", "vector EXPR", "reset", "stop", "start")
	add("MASKED", "", "masked")
	add("MAP", "map REF at EXPR WRITE EXEC ;")
	add("WRITE", "", "write")
	add("EXEC", "", "exec")
	add("REACH", "MAP")
	add("PART", "MAP", "fault RULE ;")
	add("RULE", "stop", "reset", "tell REF vector EXPR")
	add("LANE", "cpu EXPR { RUN* }", "cpu EXPR needs { NEED* }")
	add("RUN", "run REF EXPR ;", "idle EXPR ;")
	add("NEED", "need REF EXPR every EXPR ;")
	for _, x := range []string{"ITEM", "REACH", "PART", "LANE", "RUN", "NEED"} {
		add(x, "const NAME = EXPR ;", "assert EXPR ;", "each NAME in EXPR .. EXPR { "+x+"* }",
			"if EXPR { "+x+"* } ELSE-"+x)
		add("ELSE-"+x, "", "else { "+x+"* }")
	}
	add("REF", "NAME INDEX*")
	add("INDEX", "[ EXPR ]")
	add("EXPR", "BITS", "BITS COMPARE BITS")
	add("COMPARE", "==", "!=", "<", "<=", ">", ">=")
	for _, l := range [][]string{{"BITS", "XORS", "|"}, {"XORS", "ANDS", "^"}, {"ANDS", "SHIFT", "&"}, {"SHIFT", "SUM", "<<", ">>"}, {"SUM", "PROD", "+", "-"}, {"PROD", "ATOM", "*", "/", "%"}} {
		add(l[0], l[1]+" MORE-"+l[0]+"*")
		for _, sign := range l[2:] {
			add("MORE-"+l[0], sign+" "+l[1])
		}
	}
	add("ATOM", "INT", "NAME", "( EXPR )")
	return g
}

// machine goes through the grammar by stacks of what is still to come. A stack
// is a number: the place of its uppermost row in rows; 0 is the empty one.
type machine struct {
	rules map[string][][]string
	rows  []row
	known map[row]int
	fore  map[int][]int // of a stack those with a terminal uppermost, or empty, that it may become
	asked map[string]bool
}

type row struct {
	symbol string
	under  int
}

func newMachine() *machine {
	return &machine{rules: rules(), rows: []row{{}}, known: map[row]int{}, fore: map[int][]int{}, asked: map[string]bool{}}
}

// push tells the stack with a symbol on top of another.
func (m *machine) push(symbol string, under int) int {
	r := row{symbol, under}
	if m.known[r] == 0 {
		m.known[r] = len(m.rows)
		m.rows = append(m.rows, r)
	}
	return m.known[r]
}

// ready tells what a stack may become without reading anything.
func (m *machine) ready(stack int) []int {
	if l, ok := m.fore[stack]; ok {
		return l
	}
	var out []int
	x := m.rows[stack]
	switch choices, rule := m.rules[x.symbol]; {
	case strings.HasSuffix(x.symbol, "*") && len(x.symbol) > 1:
		out = append(out, m.ready(x.under)...)
		out = append(out, m.ready(m.push(strings.TrimSuffix(x.symbol, "*"), stack))...)
	case !rule:
		out = []int{stack}
	default:
		for _, c := range choices {
			s := x.under
			for _, symbol := range slices.Backward(c) {
				s = m.push(symbol, s)
			}
			out = append(out, m.ready(s)...)
		}
	}
	slices.Sort(out)
	out = slices.Compact(out)
	m.fore[stack] = out
	return out
}

// read tells what stacks may become by reading a terminal.
func (m *machine) read(stacks []int, terminal string) []int {
	var out []int
	for _, s := range stacks {
		for _, r := range m.ready(s) {
			if r != 0 && m.rows[r].symbol == terminal {
				out = append(out, m.rows[r].under)
			}
		}
	}
	slices.Sort(out)
	return slices.Compact(out)
}

// goes tells the stacks behind a text's lexemes: none, if no policy begins so.
func (m *machine) goes(src []byte, list []api.Token) []int {
	stacks := []int{m.push("POLICY", 0)}
	for _, x := range list {
		terminal := string(src[x.At:x.End])
		switch x.Kind {
		case api.TName:
			terminal = "NAME"
		case api.TInt:
			terminal = "INT"
		case api.TText:
			terminal = "TEXT"
		}
		stacks = m.read(stacks, terminal)
	}
	return stacks
}

// policy tells whether a text is a policy's, however deep.
func (m *machine) policy(src []byte) bool {
	list, _, why := scan.Tokens(src)
	return why == api.OK && slices.ContainsFunc(m.goes(src, list), func(s int) bool { return slices.Contains(m.ready(s), 0) })
}

var reserved = strings.Fields("system const each in if else assert group use ram size device at dma region big wx fill subject cpu stopped map write exec fault stop reset tell vector channel from to over start irq masked plan major run idle needs need every master")

// endings are what may complete a text's last lexeme, if anything does.
func endings(src []byte) []string {
	out := []string{"", `"`, `n"`, `00"`, `0"`, "0", ".", "=", "<", ">", "q"}
	run := src[bytes.LastIndexFunc(src, func(r rune) bool {
		return !strings.ContainsRune("abcdefghijklmnopqrstuvwxyzABCDEFGHIJKLMNOPQRSTUVWXYZ0123456789_", r)
	})+1:]
	for _, w := range reserved {
		if end, ok := strings.CutPrefix(w, string(run)); ok && len(run) > 0 {
			out = append(out, end)
		}
	}
	return out
}

// begun tells whether some policy's text begins with these bytes, and the
// lexemes of one that does.
func (m *machine) begun(src []byte) ([]api.Token, bool) {
	for _, end := range endings(src) {
		all := append(bytes.Clone(src), end...)
		list, _, why := scan.Tokens(all)
		if why == api.OK && len(m.goes(all, list)) > 0 {
			return list, true
		}
	}
	return nil, false
}

// begins tells whether some policy's text begins with these bytes.
func (m *machine) begins(src []byte) bool {
	yes, known := m.asked[string(src)]
	if !known {
		_, yes = m.begun(src)
		m.asked[string(src)] = yes
	}
	return yes
}

// deep tells the first bracket ahead of an offset at which more than 32 are
// open.
func deep(list []api.Token, ahead int) (int, bool) {
	open := 0
	for _, x := range list {
		switch x.Kind {
		case api.TOpen, api.TSquare, api.TParen:
			open++
		case api.TShut, api.TUnsquare, api.TUnparen:
			open--
		}
		if open > 32 && x.At < ahead {
			return x.At, true
		}
	}
	return 0, false
}

// verdict tells where and why a text of at most 2^20 bytes is refused, by the
// chapter's own words.
func (m *machine) verdict(src []byte) (int, api.Errno) {
	policy := m.policy(src)
	p := len(src)
	if !policy {
		p = sort.Search(len(src), func(at int) bool { return !m.begins(src[:at+1]) })
	}
	list, _ := m.begun(src[:p])
	if d, ok := deep(list, p); ok {
		return d, api.ErrDeep
	}
	if policy {
		return 0, api.OK
	}
	return p, api.ErrSyntax
}
