package render

import (
	"fmt"
	"math/rand"
	"reflect"
	"strings"
	"testing"

	"bulkhead/api"
	"bulkhead/scan"
	"bulkhead/syntax"
)

// unplaced tells a tree without its offsets.
func unplaced(t api.Tree) api.Tree {
	ref := func(r api.Ref) api.Ref { return api.Ref{Word: r.Word, Index: r.Index} }
	out := api.Tree{Name: ref(t.Name), Top: t.Top}
	for _, x := range t.Items {
		x.Pos, x.Name, x.From, x.To, x.Over = 0, ref(x.Name), ref(x.From), ref(x.To), ref(x.Over)
		var params []api.Ref
		for _, p := range x.Params {
			params = append(params, ref(p))
		}
		x.Params = params
		out.Items = append(out.Items, x)
	}
	for _, n := range t.Nodes {
		n.At = 0
		out.Nodes = append(out.Nodes, n)
	}
	return out
}

// told tells all of a tree but its offsets.
func told(t api.Tree) string { return fmt.Sprintf("%+v", unplaced(t)) }

// rules are the grammar, an alternative behind the other; NAME, INT and TEXT
// are lexemes.
var rules = map[string][]string{
	"POLICY":  {"system NAME { TOPS }"},
	"TOPS":    {"", "", "TOP TOPS", "TOP TOPS", "TOP TOPS"},
	"TOP":     {"group NAME ( ) { ITEMS }", "group NAME ( PARAMS ) { ITEMS }", "ITEM", "ITEM", "ITEM", "ITEM"},
	"PARAMS":  {"NAME", "NAME , PARAMS"},
	"ITEMS":   {"", "ITEM ITEMS", "ITEM ITEMS"},
	"ITEM":    {"CONST", "each NAME in EXPR .. EXPR { ITEMS }", "if EXPR { ITEMS }", "if EXPR { ITEMS } else { ITEMS }", "use NAME ( ) ;", "use NAME ( ARGS ) ;", "ram EXPR size EXPR ;", "device REF at EXPR size EXPR ;", "device REF at EXPR size EXPR dma { REACHES }", "region REF size EXPR AT BIG WX FILL ;", "subject REF cpu EXPR STOPPED { PARTS }", "channel REF from REF to REF OVER HOW ;", "irq REF from REF to REF vector EXPR MASKED ;", "plan REF major EXPR { LANES }", "master REF ;", "start REF ;"},
	"CONST":   {"const NAME = EXPR ;", "assert EXPR ;"},
	"ARGS":    {"EXPR", "EXPR , ARGS"},
	"AT":      {"", "at EXPR"},
	"BIG":     {"", "big"},
	"WX":      {"", "wx"},
	"FILL":    {"", "fill EXPR", "fill TEXT"},
	"STOPPED": {"", "stopped"},
	"OVER":    {"", "over REF"},
	"HOW":     {"vector EXPR", "reset", "stop", "start"},
	"MASKED":  {"", "masked"},
	"MAP":     {"map REF at EXPR WRITE EXEC ;"},
	"WRITE":   {"", "write"},
	"EXEC":    {"", "exec"},
	"REACHES": {"", "REACH REACHES", "REACH REACHES"},
	"REACH":   {"CONST", "each NAME in EXPR .. EXPR { REACHES }", "if EXPR { REACHES }", "if EXPR { REACHES } else { REACHES }", "MAP", "MAP"},
	"PARTS":   {"", "PART PARTS", "PART PARTS"},
	"PART":    {"CONST", "each NAME in EXPR .. EXPR { PARTS }", "if EXPR { PARTS }", "if EXPR { PARTS } else { PARTS }", "MAP", "fault stop ;", "fault reset ;", "fault tell REF vector EXPR ;"},
	"LANES":   {"", "LANE LANES", "LANE LANES"},
	"LANE":    {"CONST", "each NAME in EXPR .. EXPR { LANES }", "if EXPR { LANES }", "if EXPR { LANES } else { LANES }", "cpu EXPR { RUNS }", "cpu EXPR needs { NEEDS }"},
	"RUNS":    {"", "RUN RUNS", "RUN RUNS"},
	"RUN":     {"CONST", "each NAME in EXPR .. EXPR { RUNS }", "if EXPR { RUNS }", "if EXPR { RUNS } else { RUNS }", "run REF EXPR ;", "idle EXPR ;"},
	"NEEDS":   {"", "NEED NEEDS", "NEED NEEDS"},
	"NEED":    {"CONST", "each NAME in EXPR .. EXPR { NEEDS }", "if EXPR { NEEDS }", "if EXPR { NEEDS } else { NEEDS }", "need REF EXPR every EXPR ;"},
	"REF":     {"NAME", "NAME", "NAME [ EXPR ]", "NAME [ EXPR ] [ EXPR ]"},
	"EXPR":    {"ATOM", "ATOM", "BITS", "BITS SIGN BITS"},
	"SIGN":    {"==", "!=", "<", "<=", ">", ">="},
	"BITS":    {"XORS", "XORS | BITS"},
	"XORS":    {"ANDS", "ANDS ^ XORS"},
	"ANDS":    {"SHIFT", "SHIFT & ANDS"},
	"SHIFT":   {"SUM", "SUM << SHIFT", "SUM >> SHIFT"},
	"SUM":     {"PROD", "PROD + SUM", "PROD - SUM"},
	"PROD":    {"ATOM", "ATOM * PROD", "ATOM / PROD", "ATOM % PROD"},
	"ATOM":    {"INT", "NAME", "INT", "NAME", "INT", "NAME", "( EXPR )"},
	"NAME":    {"a", "b", "_", "x9", "systems", "Ram", "abcdefghijklmnopqrstuvwxyz_ABC12"},
	"INT":     {"0", "7", "0x1f", "4K", "18446744073709551615"},
	"TEXT":    {`""`, `"a"`, `"#{;\"\\\n\xff"`},
}

// grower writes a text by the rules at random, till it has so many lexemes: then
// it takes the first, and shortest, of the alternatives.
type grower struct {
	*rand.Rand
	out  []string
	most int
}

func (g *grower) grow(what string) {
	choice, ok := rules[what]
	if !ok {
		g.out = append(g.out, what)
		return
	}
	pick := choice[0]
	if len(g.out) < g.most {
		pick = choice[g.Intn(len(choice))]
	}
	for _, part := range strings.Fields(pick) {
		g.grow(part)
	}
}

// policy makes a text at random.
func policy(r *rand.Rand, most int) string {
	g := grower{Rand: r, most: most}
	g.grow("POLICY")
	return strings.Join(g.out, " ")
}

// laid lays a text's lexemes out in lines by the chapter's words, told by the
// lexemes alone.
func laid(t *testing.T, src string) string {
	t.Helper()
	list, _, why := scan.Tokens([]byte(src))
	if why != api.OK {
		t.Fatalf("%q: %v", src, why)
	}
	var out []string
	line, depth := "", 0
	for i, x := range list {
		word := src[x.At:x.End]
		switch x.Kind {
		case api.TInt:
			word = fmt.Sprint(x.N)
		case api.TText:
			word = string(scan.Quote(x.S))
		}
		tight := strings.Contains(";,)[]", word) || i > 0 && strings.Contains("([", src[list[i-1].At:list[i-1].End])
		if word == "(" && i > 1 {
			keyword := src[list[i-2].At:list[i-2].End]
			tight = tight || keyword == "use" || keyword == "group"
		}
		if word == "}" {
			depth--
		}
		switch {
		case line == "":
			line = strings.Repeat("  ", depth) + word
		case tight:
			line += word
		default:
			line += " " + word
		}
		if word == "{" {
			depth++
		}
		elseNext := i+1 < len(list) && src[list[i+1].At:list[i+1].End] == "else"
		if word == "{" || word == ";" || word == "}" && !elseNext {
			out = append(out, line+"\n")
			line = ""
		}
	}
	return strings.Join(out, "") + line
}

// TestTexts: P7.1, P7.3, P7.4 of texts at random: what is printed is read as the
// tree, is laid out as its lexemes say, needs each of its parentheses, and is
// printed again as it is.
func TestTexts(t *testing.T) {
	t.Parallel()
	r := rand.New(rand.NewSource(7))
	longest := 0
	for i := range 1000 {
		src := policy(r, 1+r.Intn(400))
		if i < len(everything) {
			src = everything[i]
		}
		tree, place, why := syntax.Parse([]byte(src))
		if why != api.OK {
			t.Fatalf("%.300q: %v %v", src, place, why)
		}
		was := fmt.Sprintf("%+v", tree)
		text := printed(t, tree)
		if fmt.Sprintf("%+v", tree) != was {
			t.Fatalf("R2: the tree of %q was changed", src)
		}
		again := read(t, text)
		if told(again) != told(tree) {
			t.Fatalf("P7.3: %s\nis not the tree of\n%s", text, src)
		}
		if second := printed(t, again); second != text {
			t.Fatalf("P7.3: %s\nthen\n%s", text, second)
		}
		if want := laid(t, text); text != want {
			t.Fatalf("P7.1: %s\nwant\n%s", text, want)
		}
		if deep(t, text) > deep(t, src) {
			t.Fatalf("P7.4: %s\nis deeper than\n%s", text, src)
		}
		needed(t, text, told(tree))
		longest = max(longest, len(text))
	}
	if longest < 2000 {
		t.Errorf("%d bytes: too short to tell", longest)
	}
}

// deep tells how many brackets of a text are open at most.
func deep(t *testing.T, src string) int {
	t.Helper()
	list, _, _ := scan.Tokens([]byte(src))
	open, most := 0, 0
	for _, x := range list {
		switch x.Kind {
		case api.TOpen, api.TSquare, api.TParen:
			open++
		case api.TShut, api.TUnsquare, api.TUnparen:
			open--
		}
		most = max(most, open)
	}
	return most
}

// needed holds that a text without any one pair of its parentheses is another
// tree's, or none's.
func needed(t *testing.T, text, tree string) {
	t.Helper()
	list, _, _ := scan.Tokens([]byte(text))
	var open []int
	for i, x := range list {
		switch {
		case x.Kind == api.TParen:
			open = append(open, i)
		case x.Kind == api.TUnparen:
			first := list[open[len(open)-1]].At
			open = open[:len(open)-1]
			less := []byte(text)
			less[first], less[x.At] = ' ', ' '
			if other, _, why := syntax.Parse(less); why == api.OK && told(other) == tree {
				t.Fatalf("P7.1: the parentheses at %d are not needed: %s", first, text)
			}
		}
	}
}

// naive spells what a tree says, all operators in parentheses, without asking
// whether it may be; it gives up where there is no going on.
type naive struct {
	api.Tree
	out  []string
	left int // how many more lexemes: a wrong tree may have no end
}

func (w *naive) lex(s ...string) {
	w.left -= len(s)
	if w.left < 0 {
		panic("no end")
	}
	w.out = append(w.out, s...)
}

func (w *naive) expr(n int) {
	x := w.Nodes[n]
	switch x.Op {
	case api.XInt:
		w.lex(fmt.Sprint(x.N))
	case api.XName:
		w.lex(x.S)
	default:
		w.lex("(")
		w.expr(x.Kids[0])
		w.lex(operators[x.Op-api.TEqual])
		w.expr(x.Kids[1])
		w.lex(")")
	}
}

func (w *naive) ref(r api.Ref) {
	w.lex(r.Word)
	for _, n := range r.Index {
		w.lex("[")
		w.expr(n)
		w.lex("]")
	}
}

func (w *naive) block(kids []int) {
	w.lex("{")
	for _, n := range kids {
		w.item(w.Items[n])
	}
	w.lex("}")
}

// patterns are the items' spellings: N F T O are its names, E its next
// expression, P its parameters, A all of its expressions, K and L its blocks, S
// its text; a pattern with a flag's name is left out where it isn't set.
var patterns = map[int]string{
	api.IConst: "const N = E ;", api.IAssert: "assert E ;", api.IEach: "each N in E .. E K", api.IIf: "if E K FElse:else FElse:L",
	api.IGroup: "group N ( P ) K", api.IUse: "use N ( A ) ;", api.IRam: "ram E size E ;",
	api.IRegion:  "region N size E FAt:at FAt:E FBig:big FWx:wx FText:fill FText:S FFill:fill FFill:E ;",
	api.ISubject: "subject N cpu E FStopped:stopped K", api.IIrq: "irq N from F to T vector E FMasked:masked ;",
	api.IPlan: "plan N major E K", api.IMaster: "master N ;", api.IStart: "start N ;",
	api.IMap: "map N at E FWrite:write FExec:exec ;", api.ILane: "cpu E FNeeds:needs K", api.IRun: "run N E ;", api.IIdle: "idle E ;", api.INeed: "need N E every E ;",
}

var flags = map[string]int{"FElse": api.FElse, "FAt": api.FAt, "FBig": api.FBig, "FWx": api.FWx, "FText": api.FText, "FFill": api.FFill, "FStopped": api.FStopped, "FMasked": api.FMasked, "FWrite": api.FWrite, "FExec": api.FExec, "FNeeds": api.FNeeds, "FOver": api.FOver, "FDma": api.FDma}

// pattern tells an item's spelling.
func pattern(x api.Item) string {
	how := map[int]string{api.ByVector: "vector E", api.ByReset: "reset", api.ByStop: "stop", api.ByStart: "start"}[x.How]
	switch x.Kind {
	case api.IDevice:
		if x.Flags&api.FDma != 0 {
			return "device N at E size E dma K"
		}
		return "device N at E size E ;"
	case api.IChannel:
		return "channel N from F to T FOver:over FOver:O " + how + " ;"
	case api.IFault:
		if x.How == api.ByVector {
			how = "tell T vector E"
		}
		return "fault " + how + " ;"
	}
	return patterns[x.Kind]
}

func (w *naive) item(x api.Item) {
	for _, word := range strings.Fields(pattern(x)) {
		if flag, rest, ok := strings.Cut(word, ":"); ok {
			if x.Flags&flags[flag] == 0 {
				continue
			}
			word = rest
		}
		switch word {
		case "N":
			w.ref(x.Name)
		case "F":
			w.ref(x.From)
		case "T":
			w.ref(x.To)
		case "O":
			w.ref(x.Over)
		case "E":
			w.expr(x.E[0])
			x.E = x.E[1:]
		case "A":
			for i, n := range x.E {
				if i > 0 {
					w.lex(",")
				}
				w.expr(n)
			}
		case "P":
			for i, p := range x.Params {
				if i > 0 {
					w.lex(",")
				}
				w.ref(p)
			}
		case "K":
			w.block(x.Kids)
		case "L":
			w.block(x.Else)
		case "S":
			w.lex(string(scan.Quote(x.Text)))
		default:
			w.lex(word)
		}
	}
}

// spelled spells a tree; none, if it can't be.
func spelled(tree api.Tree) (text string) {
	w := naive{Tree: tree, left: 5000}
	defer func() {
		if recover() != nil {
			text = ""
		}
	}()
	w.lex("system")
	w.ref(tree.Name)
	w.block(tree.Top)
	return strings.Join(w.out, " ")
}

// known tells whether a tree is a text's: whether what it says, spelt out, is
// read as it.
func known(tree api.Tree) bool {
	other, _, why := syntax.Parse([]byte(spelled(tree)))
	return why == api.OK && told(other) == told(tree)
}

// verdict holds Print's verdict against that.
func verdict(t *testing.T, tree api.Tree, what string) bool {
	t.Helper()
	was := fmt.Sprintf("%+v", tree)
	text, why := Print(tree)
	want := api.ErrForm
	if known(tree) {
		want = api.OK
	}
	if why != want {
		t.Fatalf("P7.1: %s: %v, want %v: %+v", what, why, want, tree)
	}
	if why != api.OK && len(text) != 0 {
		t.Fatalf("R3: %s: %q", what, text)
	}
	if fmt.Sprintf("%+v", tree) != was {
		t.Fatalf("R2: %s: %+v was changed", what, tree)
	}
	return why == api.OK
}

// spots calls visit with each field and each element of a tree, and its path.
func spots(v reflect.Value, path string, visit func(v reflect.Value, path string)) {
	visit(v, path)
	switch v.Kind() {
	case reflect.Struct:
		for i := range v.NumField() {
			spots(v.Field(i), path+"."+v.Type().Field(i).Name, visit)
		}
	case reflect.Slice:
		for i := range v.Len() {
			spots(v.Index(i), fmt.Sprintf("%s[%d]", path, i), visit)
		}
	}
}

// variants are other values for a spot; the number that stands there may be
// one of a node, of an item, of a kind or flags.
func variants(v reflect.Value) []reflect.Value {
	var out []reflect.Value
	switch v.Kind() {
	case reflect.Int:
		n := v.Int()
		for _, m := range []int64{-1, 0, 1, 2, 3, 4, n - 1, n + 1, n + 2, n ^ 1, n ^ 2, n ^ 1<<10, n ^ 1<<13, n ^ 1<<40, -1 << 63, 1<<63 - 1} {
			out = append(out, reflect.ValueOf(int(m)))
		}
	case reflect.Uint64:
		out = append(out, reflect.ValueOf(uint64(0)), reflect.ValueOf(uint64(1)), reflect.ValueOf(^uint64(0)))
	case reflect.String:
		for _, s := range []string{"", "a", "map", "9", "a b", "a.0", "a[1]", "\xff", strings.Repeat("x", 32), strings.Repeat("x", 33)} {
			out = append(out, reflect.ValueOf(s))
		}
	case reflect.Slice:
		out = append(out, reflect.Zero(v.Type()))
		more := reflect.MakeSlice(v.Type(), v.Len()+1, v.Len()+1)
		reflect.Copy(more, v)
		out = append(out, more)
		if v.Len() == 0 {
			break
		}
		less := reflect.MakeSlice(v.Type(), v.Len()-1, v.Len())
		reflect.Copy(less, v)
		twice := reflect.Append(reflect.AppendSlice(reflect.Zero(v.Type()), v), v.Index(v.Len()-1))
		turned := reflect.MakeSlice(v.Type(), v.Len(), v.Len())
		for i := range v.Len() {
			turned.Index(i).Set(v.Index(v.Len() - 1 - i))
		}
		out = append(out, less, twice, turned, v.Slice(1, v.Len()))
	}
	return out
}

// TestSpoilt: P7.1: small trees with any one field, number or list changed.
func TestSpoilt(t *testing.T) {
	t.Parallel()
	right, wrong := 0, 0
	for _, src := range everything {
		tree := read(t, src)
		spots(reflect.ValueOf(&tree).Elem(), "tree", func(v reflect.Value, path string) {
			was := reflect.New(v.Type()).Elem()
			was.Set(v)
			for _, other := range variants(was) {
				v.Set(other)
				if verdict(t, tree, src+": "+path) {
					right++
				} else {
					wrong++
				}
			}
			v.Set(was)
		})
	}
	if right < 1000 || wrong < 5000 {
		t.Errorf("%d right, %d wrong: too few to tell", right, wrong)
	}
}

// TestSpoiltAtRandom: P7.1: trees of any texts, a few spots changed.
func TestSpoiltAtRandom(t *testing.T) {
	t.Parallel()
	r := rand.New(rand.NewSource(71))
	right, wrong := 0, 0
	for right+wrong < 6000 {
		src := policy(r, 1+r.Intn(60))
		tree := read(t, src)
		for range 1 + r.Intn(2) {
			var all []reflect.Value
			spots(reflect.ValueOf(&tree).Elem(), "", func(v reflect.Value, _ string) { all = append(all, v) })
			v := all[r.Intn(len(all))]
			if list := variants(v); len(list) > 0 {
				v.Set(list[r.Intn(len(list))])
			}
		}
		if deep(t, spelled(tree)) > api.MaxDepth {
			continue // with all parentheses it can't be read
		}
		if verdict(t, tree, src) {
			right++
		} else {
			wrong++
		}
	}
	if right < 500 || wrong < 2000 {
		t.Errorf("%d right, %d wrong: too few to tell", right, wrong)
	}
}
