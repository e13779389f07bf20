package parser

import "queuelab/api"

func (r *reader) anyItem() api.Node {
	at := r.token().At
	kinds := [...]func() api.Node{r.link, r.path, r.flow, r.program}
	n := kinds[r.choice("link", "path", "flow", "program")]()
	n.At = at
	return n
}

func (r *reader) link() api.Node {
	n := api.Node{Kind: api.NodeLink, Name: r.name()}
	n.Kids = append(r.settings("rate", "delay", "room"), r.policy())
	r.word(";")
	return n
}

func (r *reader) policy() api.Node {
	n := api.Node{Kind: api.NodePolicy, At: r.token().At}
	n.N = api.PolTail + r.choice("tail", "early", "sojourn", "integral", "deficit", "dual")
	n.Kids = r.numbers(policySize(n.N))
	return n
}

func (r *reader) path() api.Node {
	n := api.Node{Kind: api.NodePath, Name: r.name()}
	n.Kids = append(r.names(), r.settings("back")...)
	r.word(";")
	return n
}

func (r *reader) flow() api.Node {
	n := api.Node{Kind: api.NodeFlow, Name: r.name()}
	r.word("program")
	at := r.token().At
	n.Kids = []api.Node{{Kind: api.NodeName, Name: r.name(), At: at}}
	r.word("paths")
	n.Kids = append(n.Kids, r.names()...)
	n.Kids = append(n.Kids, r.settings("size", "window", "start")...)
	r.word(";")
	return n
}

func (r *reader) program() api.Node {
	n := api.Node{Kind: api.NodeProgram, Name: r.name()}
	r.word("{")
	for r.is("var") {
		n.Kids = append(n.Kids, r.variable())
	}
	for r.is("on") {
		n.Kids = append(n.Kids, r.handler())
	}
	n.Kids = append(n.Kids, r.use("window", 0))
	if r.is("pace") {
		n.Kids = append(n.Kids, r.use("pace", 1))
	}
	r.word("}")
	return n
}

func (r *reader) variable() api.Node {
	n := api.Node{Kind: api.NodeVar, At: r.token().At}
	r.word("var")
	n.Name = r.name()
	n.N = r.choice(unitWords()...)
	n.Kids = r.numbers(3)
	r.word(";")
	return n
}

// use reads which variable is used for a purpose.
func (r *reader) use(word string, purpose int) api.Node {
	n := api.Node{Kind: api.NodeUse, N: purpose, At: r.token().At}
	r.word(word)
	n.Name = r.name()
	r.word(";")
	return n
}

func (r *reader) handler() api.Node {
	n := api.Node{Kind: api.NodeOn, At: r.token().At}
	r.word("on")
	n.N = r.choice("ack", "loss", "mark", "timeout", "path")
	n.Kids = r.stmts(1)
	return n
}
