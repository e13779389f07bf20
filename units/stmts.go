package units

import "queuelab/api"

// handler returns the error of a handler.
func (s scope) handler(list []api.Stmt) api.Errno {
	// The limits come first: a handler within them has an end, so that what follows has one.
	if !fits(list) {
		return api.ErrLimit
	}
	return s.stmts(list)
}

// fits reports whether a handler is within the limits.
func fits(list []api.Stmt) bool {
	left := api.MaxStmts
	return every(list, func(x api.Stmt) bool {
		left--
		return left >= 0 && !isLong(x.A) && (x.Kind != api.StIf || !isLong(x.B))
	})
}

// every reports whether all statements of a list, with those in them, have a property; those behind one that does not have it are not looked at.
func every(list []api.Stmt, holds func(api.Stmt) bool) bool {
	for _, x := range list {
		if !holds(x) {
			return false
		}
		if x.Kind == api.StIf && !(every(x.Then, holds) && every(x.Else, holds)) {
			return false
		}
	}
	return true
}

// stmts returns the first error of some statements.
func (s scope) stmts(list []api.Stmt) api.Errno {
	for _, x := range list {
		if err := s.stmt(x); err != api.OK {
			return err
		}
	}
	return api.OK
}

func (s scope) stmt(x api.Stmt) api.Errno {
	switch x.Kind {
	case api.StAssign:
		return s.assignment(x)
	case api.StIf:
		return s.condition(x)
	}
	return api.ErrArg
}

func (s scope) assignment(x api.Stmt) api.Errno {
	if !isIndex(x.Var, len(s)) {
		return api.ErrArg
	}
	p, err := s.infer(x.A)
	if err == api.OK && p != s[x.Var] {
		return api.ErrUnit
	}
	return err
}

func (s scope) condition(x api.Stmt) api.Errno {
	if !between(x.Rel, api.RelLess, api.RelOther) {
		return api.ErrArg
	}
	if err := s.compared(x.A, x.B); err != api.OK {
		return err
	}
	if err := s.stmts(x.Then); err != api.OK {
		return err
	}
	return s.stmts(x.Else)
}

// compared returns the error of two expressions that are compared.
func (s scope) compared(a, b api.Expr) api.Errno {
	left, err := s.infer(a)
	if err != api.OK {
		return err
	}
	right, err := s.infer(b)
	if err == api.OK && left != right {
		return api.ErrUnit
	}
	return err
}
