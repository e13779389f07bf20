package code

import "queuelab/api"

// operations has the operation of code for each one of expressions.
var operations = [...]int{
	api.ExNumber: api.CoPush,
	api.ExVar:    api.CoVar,
	api.ExInput:  api.CoInput,
	api.ExAdd:    api.CoAdd,
	api.ExSub:    api.CoSub,
	api.ExMul:    api.CoMul,
	api.ExDiv:    api.CoDiv,
	api.ExUp:     api.CoUp,
	api.ExMin:    api.CoMin,
	api.ExMax:    api.CoMax,
}

// writer writes the code of a handler.
type writer struct{ list []api.Instr }

func (w *writer) put(x api.Instr) { w.list = append(w.list, x) }

// putForward puts an instruction that leads to an index that is not known yet, and returns a function that makes this the index of what is put next.
func (w *writer) putForward(x api.Instr) func() {
	from := len(w.list)
	w.put(x)
	return func() { w.list[from].N = len(w.list) }
}

// stmts writes statements of a valid program.
func (w *writer) stmts(list []api.Stmt) {
	for _, s := range list {
		write := w.assignment
		if s.Kind == api.StIf {
			write = w.choice
		}
		write(s)
	}
}

func (w *writer) assignment(s api.Stmt) {
	w.expr(s.A)
	w.put(api.Instr{Op: api.CoStore, N: s.Var})
}

// choice writes an if.
func (w *writer) choice(s api.Stmt) {
	w.expr(s.A)
	w.expr(s.B)
	arrive := w.putForward(api.Instr{Op: api.CoUnless, Rel: s.Rel})
	w.stmts(s.Then)
	if len(s.Else) > 0 {
		arriveAtEnd := w.putForward(api.Instr{Op: api.CoJump})
		arrive()
		w.stmts(s.Else)
		arrive = arriveAtEnd
	}
	arrive()
}

func (w *writer) expr(e api.Expr) {
	for _, kid := range e.Kids {
		w.expr(kid)
	}
	x := api.Instr{Op: operations[e.Op]}
	// An operation on kids may have any N, since it has no meaning there.
	if len(e.Kids) == 0 {
		x.N = e.N
	}
	w.put(x)
}
