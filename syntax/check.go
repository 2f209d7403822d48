package syntax

import (
	"math"

	"rollbacknet/api"
	"rollbacknet/token"
)

// Check returns the first error of a program.
func Check(p api.Program) api.Errno {
	if Depth(p) > api.MaxDepth {
		return api.ErrTooDeep
	}
	for _, v := range p.Vars {
		if !isVar(v) {
			return api.ErrShape
		}
	}
	for _, h := range handlers(p) {
		if !areStmts(h.body) {
			return api.ErrShape
		}
	}
	return api.OK
}

// isVar reports whether there is a text for a declaration.
func isVar(v api.Var) bool {
	// There is no number whose negation is the least value.
	if !token.Valid(v.Name) || v.Size < 0 || v.Init == math.MinInt {
		return false
	}
	return v.Size == 0 || v.Init == 0
}

// areStmts reports whether statements are as Parse makes them.
func areStmts(l []api.Stmt) bool {
	for _, s := range l {
		if !isStmt(s) || !areStmts(s.Body) || !areStmts(s.Else) {
			return false
		}
	}
	return true
}

// isStmt reports whether a statement is as Parse makes it, whatever the statements in it are.
func isStmt(s api.Stmt) bool {
	named, placed, body, other := false, false, false, false
	switch s.Kind {
	case api.Assign:
		named = true
	case api.Store:
		named, placed = true, true
	case api.If:
		body, other = true, true
	case api.While:
		body = true
	case api.Put:
		placed = true
	case api.Out:
	default:
		return false
	}
	return s.Slot == 0 && s.Size == 0 && isNamed(s.Name, named) && isPlace(s.Place, placed) && isExpr(s.Value) &&
		(body || len(s.Body) == 0) && (other || len(s.Else) == 0)
}

// isExpr reports whether an expression is as Parse makes it.
func isExpr(e api.Expr) bool {
	named := e.Op == api.Scalar || e.Op == api.Index
	if e.Slot != 0 || e.Size != 0 || !isNamed(e.Name, named) {
		return false
	}
	if e.Value < 0 || e.Value > 0 && e.Op != api.Const {
		return false
	}
	if n, ok := operands(e.Op); !ok || n != len(e.Args) {
		return false
	}
	for _, a := range e.Args {
		if !isExpr(a) {
			return false
		}
	}
	return true
}

// operands returns how many Args an expression with this Op has, and false if there is none.
func operands(op int) (int, bool) {
	switch op {
	case api.Const, api.Scalar:
		return 0, true
	case api.Index:
		return 1, true
	}
	s, ok := symbolOf(op)
	switch {
	case !ok || s.level == plain:
		return 0, ok
	case s.level == unary:
		return 1, true
	}
	return 2, true
}

// isNamed reports whether a name is valid if there has to be one, and empty otherwise.
func isNamed(name string, named bool) bool {
	if named {
		return token.Valid(name)
	}
	return name == ""
}

// isPlace reports whether a place is an expression if there has to be one, and the zero expression otherwise.
func isPlace(e api.Expr, placed bool) bool {
	if placed {
		return isExpr(e)
	}
	return e.Op == 0 && e.Value == 0 && e.Name == "" && e.Slot == 0 && e.Size == 0 && len(e.Args) == 0
}
