package printer

import (
	"strconv"
	"strings"

	"queuelab/api"
)

// writer writes the texts of nodes of valid trees; open is how many braces are open.
type writer struct {
	text strings.Builder
	open int
}

// node writes a node by the method for its kind.
func (w *writer) node(n api.Node) {
	methods := [...]func(*writer, api.Node){
		api.NodeSource:  (*writer).source,
		api.NodeLink:    (*writer).link,
		api.NodePolicy:  (*writer).policy,
		api.NodePath:    (*writer).path,
		api.NodeFlow:    (*writer).flow,
		api.NodeProgram: (*writer).program,
		api.NodeVar:     (*writer).variable,
		api.NodeOn:      (*writer).handler,
		api.NodeUse:     (*writer).use,
		api.NodeAssign:  (*writer).assignment,
		api.NodeIf:      (*writer).condition,
		api.NodeBlock:   (*writer).block,
		api.NodeNumber:  (*writer).number,
		api.NodeName:    (*writer).name,
		api.NodeAdd:     (*writer).operation,
		api.NodeSub:     (*writer).operation,
		api.NodeMul:     (*writer).operation,
		api.NodeDiv:     (*writer).operation,
		api.NodeUp:      (*writer).function,
		api.NodeMin:     (*writer).function,
		api.NodeMax:     (*writer).function,
	}
	methods[n.Kind](w, n)
}

func (w *writer) write(texts ...string) {
	for _, text := range texts {
		w.text.WriteString(text)
	}
}

// list writes nodes, each behind a blank, so that an empty list leaves no blank at the end of what is before it.
func (w *writer) list(nodes ...api.Node) {
	for _, n := range nodes {
		w.write(" ")
		w.node(n)
	}
}

// lines writes nodes, each on lines of its own.
func (w *writer) lines(nodes ...api.Node) {
	for _, n := range nodes {
		w.write(w.margin())
		w.node(n)
		w.write("\n")
	}
}

// margin returns what a line begins with.
func (w *writer) margin() string { return strings.Repeat("  ", w.open) }

func (w *writer) source(n api.Node) { w.lines(n.Kids...) }

func (w *writer) link(n api.Node) {
	w.write("link ", n.Name, " rate")
	w.list(n.Kids[0])
	w.write(" delay")
	w.list(n.Kids[1])
	w.write(" room")
	w.list(n.Kids[2:]...)
	w.write(";")
}

func (w *writer) policy(n api.Node) {
	w.write(policyWords[n.N])
	w.list(n.Kids...)
}

func (w *writer) path(n api.Node) {
	links := len(n.Kids) - 1
	w.write("path ", n.Name)
	w.list(n.Kids[:links]...)
	w.write(" back")
	w.list(n.Kids[links])
	w.write(";")
}

func (w *writer) flow(n api.Node) {
	numbers := n.Kids[len(n.Kids)-3:]
	w.write("flow ", n.Name, " program")
	w.list(n.Kids[0])
	w.write(" paths")
	w.list(n.Kids[1 : len(n.Kids)-3]...)
	w.write(" size")
	w.list(numbers[0])
	w.write(" window")
	w.list(numbers[1])
	w.write(" start")
	w.list(numbers[2])
	w.write(";")
}

func (w *writer) program(n api.Node) {
	w.write("program ", n.Name, " ")
	w.block(n)
}

func (w *writer) variable(n api.Node) {
	w.write("var ", n.Name, " ", unitWords[n.N])
	w.list(n.Kids...)
	w.write(";")
}

func (w *writer) handler(n api.Node) {
	w.write("on ", eventWords[n.N], " ")
	w.block(n)
}

func (w *writer) use(n api.Node) { w.write(useWords[n.N], " ", n.Name, ";") }

func (w *writer) assignment(n api.Node) {
	w.write(n.Name, " =")
	w.list(n.Kids[0])
	w.write(";")
}

func (w *writer) condition(n api.Node) {
	w.write("if")
	w.list(n.Kids[0])
	w.write(" ", relationWords[n.N])
	w.list(n.Kids[1:3]...)
	if len(n.Kids) > 3 {
		w.write(" else")
		w.list(n.Kids[3])
	}
}

// block writes what is below a node, in braces; the line of the first brace was begun, that of the last one is not ended, so that else can follow.
func (w *writer) block(n api.Node) {
	w.write("{\n")
	w.open++
	w.lines(n.Kids...)
	w.open--
	w.write(w.margin(), "}")
}

func (w *writer) number(n api.Node) {
	w.write(strconv.Itoa(n.N))
	if n.Unit != api.UnitNone {
		w.write(" ", unitWords[n.Unit])
	}
}

func (w *writer) name(n api.Node) { w.write(n.Name) }

func (w *writer) operation(n api.Node) {
	operand := func(kid api.Node, enclosed bool) {
		if !enclosed {
			w.node(kid)
			return
		}
		w.write("(")
		w.node(kid)
		w.write(")")
	}
	left, right := n.Kids[0], n.Kids[1]
	operand(left, isSum(left) && isProduct(n))
	w.write(" ", operationWords[n.Kind], " ")
	// Operators of one kind are read from left to right, so that a second operand of this kind needs parentheses too.
	operand(right, isSum(right) || isProduct(right) && isProduct(n))
}

func isSum(n api.Node) bool { return n.Kind == api.NodeAdd || n.Kind == api.NodeSub }

func isProduct(n api.Node) bool { return n.Kind == api.NodeMul || n.Kind == api.NodeDiv }

func (w *writer) function(n api.Node) {
	w.write(operationWords[n.Kind], "(")
	w.node(n.Kids[0])
	w.write(",")
	w.list(n.Kids[1])
	w.write(")")
}
