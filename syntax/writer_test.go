package syntax

import (
	"math/rand"
	"strconv"
	"strings"

	"bulkhead/api"
	"bulkhead/scan"
)

// writer makes a text at random, lexeme by lexeme, and the tree that it must be
// read as.
type writer struct {
	*rand.Rand
	src   []byte
	tree  api.Tree
	spare int // how many brackets may still be opened within each other
	short bool
}

func (w *writer) coin() bool { return w.Intn(2) == 0 }

func (w *writer) one(l ...string) string { return l[w.Intn(len(l))] }

// gap writes blanks and comments.
func (w *writer) gap() {
	w.src = append(w.src, w.one(" ", " ", " ", "\n", "\t", "\r\n", "  ", "# x\n", "#\n", "#\xff { [ ( \"\n", " # }\n\t")...)
}

// lex writes a lexeme, and tells where.
func (w *writer) lex(s string) int {
	if n := len(w.src); n > 0 {
		before, first := w.src[n-1], s[0]
		const words, signs = "abcdefghijklmnopqrstuvwxyzABCDEFGHIJKLMNOPQRSTUVWXYZ0123456789_", ".=!<>"
		if strings.ContainsRune(words, rune(before)) && strings.ContainsRune(words, rune(first)) ||
			strings.ContainsRune(signs, rune(before)) && strings.ContainsRune(signs, rune(first)) ||
			w.Intn(3) == 0 {
			w.gap()
		}
	}
	w.src = append(w.src, s...)
	return len(w.src) - len(s)
}

// word writes a name.
func (w *writer) word() api.Ref {
	s := w.one("a", "b", "r", "_", "x9", "ins", "systems", "K", "Ram", "need_", "abcdefghijklmnopqrstuvwxyz_ABC12")
	return api.Ref{Word: s, At: w.lex(s)}
}

// ref writes a name that may have indices.
func (w *writer) ref() api.Ref {
	ref := w.word()
	for w.spare > 0 && w.Intn(4) == 0 {
		w.lex("[")
		w.spare--
		ref.Index = append(ref.Index, w.expr())
		w.spare++
		w.lex("]")
	}
	return ref
}

// The signs of the operators, by their ranks.
var ranks = [][]string{{"==", "!=", "<", "<=", ">", ">="}, {"|"}, {"^"}, {"&"}, {"<<", ">>"}, {"+", "-"}, {"*", "/", "%"}}

// expr writes an expression: its root.
func (w *writer) expr() int { return w.atLeast(0, 3) }

// atLeast writes an expression that may stand beside an operator of the rank
// below, with at most so many operators above each other.
func (w *writer) atLeast(rank, high int) int {
	if w.spare > 0 && w.Intn(6) == 0 {
		w.lex("(")
		w.spare--
		root := w.atLeast(0, high)
		w.spare++
		w.lex(")")
		return root
	}
	own := rank + w.Intn(len(ranks)+1-rank)
	if own == len(ranks) || high == 0 || w.short && w.coin() {
		return w.leaf()
	}
	left := own
	if own == 0 {
		left = 1 // a comparison stands beside no other
	}
	first := w.atLeast(left, high-1)
	sign := w.one(ranks[own]...)
	at := w.lex(sign)
	second := w.atLeast(own+1, high-1)
	return w.node(api.Node{Op: kindOfSign(sign), Kids: []int{first, second}, At: at})
}

// leaf writes an integer or a name.
func (w *writer) leaf() int {
	if w.coin() {
		s := w.word()
		return w.node(api.Node{Op: api.TName, S: s.Word, At: s.At})
	}
	n := w.Uint64() >> w.Intn(64)
	s := strconv.FormatUint(n, 10)
	switch w.Intn(4) {
	case 0:
		s = "0x" + strconv.FormatUint(n, 16)
	case 1:
		s, n = strconv.FormatUint(n>>44, 10)+"K", n>>44<<10
	}
	return w.node(api.Node{Op: api.TInt, N: n, At: w.lex(s)})
}

func (w *writer) node(n api.Node) int {
	w.tree.Nodes = append(w.tree.Nodes, n)
	return len(w.tree.Nodes) - 1
}

// kindOfSign tells an operator's kind by the order of the kinds.
func kindOfSign(sign string) int {
	for i, s := range strings.Fields("== != < <= > >= | ^ & << >> + - * / %") {
		if s == sign {
			return api.TEqual + i
		}
	}
	return 0
}

// block writes a block of a few items of this choice.
func (w *writer) block(kinds string) []int {
	w.lex("{")
	w.spare--
	var kids []int
	most := 4
	if w.short {
		most = 3
	}
	for range w.Intn(most) {
		kids = append(kids, w.item(kinds))
	}
	w.spare++
	w.lex("}")
	return kids
}

// The items that may stand in the blocks; those with a block of their own come
// last.
const (
	inAll     = "const assert "
	ofGroup   = inAll + "use ram region channel irq master start device each if subject plan"
	ofPolicy  = ofGroup + " group"
	ofDevice  = inAll + "map each if"
	ofSubject = inAll + "map fault each if"
	ofPlan    = inAll + "cpu each if"
	ofLane    = inAll + "run idle each if"
	ofNeeds   = inAll + "need each if"
)

// item writes an item of this choice: its number.
func (w *writer) item(kinds string) int {
	choice := strings.Fields(kinds)
	kind := choice[w.Intn(len(choice))]
	if w.spare < 2 && (kind == "each" || kind == "if" || kind == "subject" || kind == "plan" || kind == "group" || kind == "cpu" || kind == "use" || kind == "device") {
		kind = "assert"
	}
	n := len(w.tree.Items)
	x := api.Item{Pos: w.lex(kind)}
	w.tree.Items = append(w.tree.Items, x)
	switch kind {
	case "const", "assert", "each", "if":
		w.inner(&x, kind, strings.TrimSuffix(kinds, " group"))
	case "group", "use":
		w.grouped(&x, kind)
	case "map", "fault", "cpu", "run", "idle", "need":
		w.within(&x, kind)
	default:
		w.declared(&x, kind)
	}
	w.tree.Items[n] = x
	return n
}

func (w *writer) value(x *api.Item) { x.E = append(x.E, w.expr()) }

// may writes a word, or not, and keeps that as a flag.
func (w *writer) may(x *api.Item, word string, flag int) bool {
	if w.coin() {
		return false
	}
	w.lex(word)
	x.Flags |= flag
	return true
}

func (w *writer) inner(x *api.Item, kind, kinds string) {
	switch kind {
	case "const":
		x.Kind, x.Name = api.IConst, w.word()
		w.lex("=")
		w.value(x)
		w.lex(";")
	case "assert":
		x.Kind = api.IAssert
		w.value(x)
		w.lex(";")
	case "each":
		x.Kind, x.Name = api.IEach, w.word()
		w.lex("in")
		w.value(x)
		w.lex("..")
		w.value(x)
		x.Kids = w.block(kinds)
	case "if":
		x.Kind = api.IIf
		w.value(x)
		x.Kids = w.block(kinds)
		if w.may(x, "else", api.FElse) {
			x.Else = w.block(kinds)
		}
	}
}

func (w *writer) grouped(x *api.Item, kind string) {
	x.Kind, x.Name = api.IUse, w.word()
	w.lex("(")
	w.spare--
	for i := range w.Intn(4) {
		if i > 0 {
			w.lex(",")
		}
		if kind == "use" {
			w.value(x)
		} else {
			x.Params = append(x.Params, w.word())
		}
	}
	w.spare++
	w.lex(")")
	if kind == "use" {
		w.lex(";")
		return
	}
	x.Kind = api.IGroup
	x.Kids = w.block(ofGroup)
}

func (w *writer) vector(x *api.Item) {
	w.lex("vector")
	w.value(x)
}

func (w *writer) within(x *api.Item, kind string) {
	switch kind {
	case "map":
		x.Kind, x.Name = api.IMap, w.ref()
		w.lex("at")
		w.value(x)
		w.may(x, "write", api.FWrite)
		w.may(x, "exec", api.FExec)
	case "fault":
		x.Kind = api.IFault
		x.How = []int{api.ByStop, api.ByReset, api.ByVector}[w.Intn(3)]
		w.lex(map[int]string{api.ByStop: "stop", api.ByReset: "reset", api.ByVector: "tell"}[x.How])
		if x.How == api.ByVector {
			x.To = w.ref()
			w.vector(x)
		}
	case "cpu":
		x.Kind = api.ILane
		w.value(x)
		if w.may(x, "needs", api.FNeeds) {
			x.Kids = w.block(ofNeeds)
		} else {
			x.Kids = w.block(ofLane)
		}
		return
	case "run":
		x.Kind, x.Name = api.IRun, w.ref()
		w.value(x)
	case "idle":
		x.Kind = api.IIdle
		w.value(x)
	case "need":
		x.Kind, x.Name = api.INeed, w.ref()
		w.value(x)
		w.lex("every")
		w.value(x)
	}
	w.lex(";")
}

func (w *writer) declared(x *api.Item, kind string) {
	if kind != "ram" {
		x.Name = w.ref()
	}
	switch kind {
	case "ram":
		x.Kind = api.IRam
		w.value(x)
		w.lex("size")
		w.value(x)
	case "device":
		x.Kind = api.IDevice
		w.lex("at")
		w.value(x)
		w.lex("size")
		w.value(x)
		if w.may(x, "dma", api.FDma) {
			x.Kids = w.block(ofDevice)
			return
		}
	case "region":
		w.region(x)
	case "subject":
		x.Kind = api.ISubject
		w.lex("cpu")
		w.value(x)
		w.may(x, "stopped", api.FStopped)
		x.Kids = w.block(ofSubject)
		return
	case "plan":
		x.Kind = api.IPlan
		w.lex("major")
		w.value(x)
		x.Kids = w.block(ofPlan)
		return
	case "master":
		x.Kind = api.IMaster
	case "start":
		x.Kind = api.IStart
	default:
		w.linked(x, kind)
	}
	w.lex(";")
}

func (w *writer) region(x *api.Item) {
	x.Kind = api.IRegion
	w.lex("size")
	w.value(x)
	if w.may(x, "at", api.FAt) {
		w.value(x)
	}
	w.may(x, "big", api.FBig)
	w.may(x, "wx", api.FWx)
	switch w.Intn(3) {
	case 0:
		w.lex("fill")
		w.value(x)
		x.Flags |= api.FFill
	case 1:
		w.lex("fill")
		x.Text = w.one("", "a", "# no { comment", "\"\\\n\x00", "}")
		w.lex(string(scan.Quote(x.Text)))
		x.Flags |= api.FText
	}
}

func (w *writer) linked(x *api.Item, kind string) {
	w.lex("from")
	x.From = w.ref()
	w.lex("to")
	x.To = w.ref()
	if kind == "irq" {
		x.Kind = api.IIrq
		w.vector(x)
		w.may(x, "masked", api.FMasked)
		return
	}
	x.Kind = api.IChannel
	if w.may(x, "over", api.FOver) {
		x.Over = w.ref()
	}
	x.How = api.ByVector + w.Intn(4)
	if x.How == api.ByVector {
		w.vector(x)
		return
	}
	w.lex([]string{"reset", "stop", "start"}[x.How-api.ByReset])
}

// write makes a text and its tree.
func write(r *rand.Rand, short bool) ([]byte, api.Tree) {
	w := &writer{Rand: r, spare: 32, short: short}
	if w.coin() {
		w.gap()
	}
	w.tree.Pos = w.lex("system")
	w.tree.Name = w.word()
	w.tree.Top = w.block(ofPolicy)
	if w.coin() {
		w.gap()
	}
	return w.src, w.tree
}
