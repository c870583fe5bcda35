package parse

import (
	"shuttle/api"
	"shuttle/scan"
	"shuttle/tree"
)

// reader reads the tokens of one line. The first failure stays, and ends the
// line: nothing behind it is looked at.
type reader struct {
	token scan.Token
	rest  string
	open  int
	errno api.Errno
}

// readLine reads a line without the blanks at its beginning; what may stand
// there hangs on the kind of the line that it belongs to.
func readLine(body string, above tree.Kind) (*tree.Process, api.Errno) {
	r := &reader{rest: body}
	r.next()
	process := r.line(above)
	if r.token.Kind != scan.End {
		r.fail(api.ErrText)
	}
	return process, r.errno
}

func (r *reader) next() { r.token, r.rest = scan.Next(r.rest) }

func (r *reader) fail(errno api.Errno) {
	if r.errno == api.OK {
		r.errno = errno
	}
	r.token, r.rest = scan.Token{Kind: scan.Wrong}, ""
}

// take goes behind the token if it is this one. The text alone tells words,
// numbers and signs apart.
func (r *reader) take(text string) bool {
	if r.token.Text != text {
		return false
	}
	r.next()
	return true
}

func (r *reader) need(text string) {
	if !r.take(text) {
		r.fail(api.ErrText)
	}
}

func (r *reader) line(above tree.Kind) *tree.Process {
	switch above {
	case tree.If:
		r.need("when")
		return &tree.Process{Kind: tree.When, Expr: r.expr()}
	case tree.Alt:
		r.need("on")
		return r.branch()
	}
	return r.process()
}

func (r *reader) process() *tree.Process {
	switch {
	case r.take("skip"):
		return &tree.Process{Kind: tree.Skip}
	case r.take("stop"):
		return &tree.Process{Kind: tree.Stop}
	case r.take("seq"):
		return &tree.Process{Kind: tree.Seq}
	case r.take("par"):
		return &tree.Process{Kind: tree.Par}
	case r.take("pri"):
		return &tree.Process{Kind: tree.Pri}
	case r.take("if"):
		return &tree.Process{Kind: tree.If}
	case r.take("alt"):
		return &tree.Process{Kind: tree.Alt}
	case r.take("wait"):
		return &tree.Process{Kind: tree.Wait, Expr: r.expr()}
	case r.take("while"):
		return &tree.Process{Kind: tree.While, Expr: r.expr()}
	case r.take("var"):
		return &tree.Process{Kind: tree.Var, Name: r.name()}
	case r.take("chan"):
		return &tree.Process{Kind: tree.Chan, Name: r.name()}
	case r.take(tree.In):
		return r.read(tree.Read, tree.Name{Text: tree.In})
	case r.take(tree.Out):
		return r.write(tree.Name{Text: tree.Out})
	}
	return r.onName(r.name())
}

// onName reads a process that begins with a name: only the sign behind it
// tells which one that is.
func (r *reader) onName(name tree.Name) *tree.Process {
	switch {
	case r.take(":="):
		return &tree.Process{Kind: tree.Becomes, Name: name, Expr: r.expr()}
	case r.token.Text == "!":
		return r.write(name)
	}
	return r.read(tree.Read, name)
}

func (r *reader) write(channel tree.Name) *tree.Process {
	r.need("!")
	return &tree.Process{Kind: tree.Write, Channel: channel, Expr: r.expr()}
}

func (r *reader) read(kind tree.Kind, channel tree.Name) *tree.Process {
	r.need("?")
	return &tree.Process{Kind: kind, Channel: channel, Name: r.name()}
}

// branch reads what stands behind `on`. A name there may be the channel or
// the beginning of the expr: only what follows it tells.
func (r *reader) branch() *tree.Process {
	if r.take(tree.In) {
		return r.read(tree.On, tree.Name{Text: tree.In})
	}
	if !r.atName() {
		return r.guarded(r.expr())
	}
	name := r.name()
	if r.token.Text == "?" {
		return r.read(tree.On, name)
	}
	return r.guarded(r.exprFrom(&tree.Expr{Kind: tree.Variable, Name: name}))
}

func (r *reader) guarded(guard *tree.Expr) *tree.Process {
	r.need("&")
	branch := r.read(tree.On, r.source())
	branch.Expr = guard
	return branch
}

// source reads a channel that can be read from.
func (r *reader) source() tree.Name {
	if r.take(tree.In) {
		return tree.Name{Text: tree.In}
	}
	return r.name()
}

func (r *reader) atName() bool {
	return r.token.Kind == scan.Word && !reserved(r.token.Text)
}

func (r *reader) name() tree.Name {
	if !r.atName() {
		r.fail(api.ErrText)
		return tree.Name{}
	}
	name := tree.Name{Text: r.token.Text}
	r.next()
	return name
}

func reserved(word string) bool {
	switch word {
	case "skip", "stop", "wait", "seq", "par", "pri", "while", "if", "when",
		"alt", "on", "var", "chan", tree.In, tree.Out:
		return true
	}
	return false
}
