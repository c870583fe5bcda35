package parse

import (
	"strconv"
	"strings"

	"shuttle/api"
	"shuttle/scan"
	"shuttle/tree"
)

const operators = "+-*/%=<>"

func (r *reader) expr() *tree.Expr { return r.exprFrom(r.operand()) }

// exprFrom reads the rest of an expr whose first operand has been read.
func (r *reader) exprFrom(left *tree.Expr) *tree.Expr {
	if !r.atOperator() {
		return left
	}
	op := r.token.Text[0]
	r.next()
	return &tree.Expr{Kind: tree.Pair, Op: op, Left: left, Right: r.operand()}
}

func (r *reader) atOperator() bool {
	return r.token.Kind == scan.Sign && strings.Contains(operators, r.token.Text)
}

func (r *reader) operand() *tree.Expr {
	switch {
	case r.token.Text == "(":
		return r.bracketed()
	case r.token.Kind == scan.Number:
		return r.number()
	}
	return &tree.Expr{Kind: tree.Variable, Name: r.name()}
}

func (r *reader) number() *tree.Expr {
	// MaxDigits digits always fit, so that there is no error to tell.
	value, _ := strconv.Atoi(r.token.Text)
	r.next()
	return &tree.Expr{Kind: tree.Number, Value: value}
}

func (r *reader) bracketed() *tree.Expr {
	if r.open == api.MaxNest {
		r.fail(api.ErrDeep)
		return nil
	}
	r.open++
	r.need("(")
	inner := r.expr()
	r.need(")")
	r.open--
	return inner
}
