// Package faces has only tests: of what holds for every function that the chapters list.
package faces

import (
	"queuelab/agenda"
	"queuelab/api"
	"queuelab/bundle"
	"queuelab/code"
	"queuelab/control"
	"queuelab/cut"
	"queuelab/deficit"
	"queuelab/desk"
	"queuelab/disk"
	"queuelab/dual"
	"queuelab/early"
	"queuelab/fair"
	"queuelab/integral"
	"queuelab/interval"
	"queuelab/keep"
	"queuelab/ledger"
	"queuelab/lexer"
	"queuelab/link"
	"queuelab/machine"
	"queuelab/maxmin"
	"queuelab/meaning"
	"queuelab/multi"
	"queuelab/pacer"
	"queuelab/parser"
	"queuelab/plot"
	"queuelab/prices"
	"queuelab/printer"
	"queuelab/queue"
	"queuelab/random"
	"queuelab/ranges"
	"queuelab/ratio"
	"queuelab/receiver"
	"queuelab/refuse"
	"queuelab/route"
	"queuelab/score"
	"queuelab/sender"
	"queuelab/settle"
	"queuelab/shelf"
	"queuelab/sojourn"
	"queuelab/tail"
	"queuelab/tap"
	"queuelab/units"
	"queuelab/verdict"
	"queuelab/workers"
	"queuelab/world"
	"queuelab/worst"
)

type face struct {
	name string
	call any
}

// faces returns the listed functions; the conversions do not compile if a signature is not that of its chapter.
func faces() []face {
	return []face{
		{"lexer.Lex", (func(source string) ([]api.Token, api.Errno, int))(lexer.Lex)},
		{"parser.Parse", (func(source string) (api.Node, []api.Diag))(parser.Parse)},
		{"parser.Valid", (func(n api.Node) bool)(parser.Valid)},
		{"parser.Strip", (func(n api.Node) api.Node)(parser.Strip)},
		{"printer.Source", (func(n api.Node) (string, api.Errno))(printer.Source)},
		{"printer.Item", (func(n api.Node) (string, api.Errno))(printer.Item)},
		{"units.Of", (func(kind int) (api.Unit, api.Errno))(units.Of)},
		{"units.Infer", (func(vars []api.Var, e api.Expr) (api.Unit, api.Errno))(units.Infer)},
		{"units.Check", (func(p api.Program) (int, api.Errno))(units.Check)},
		{"control.Build", (func(n api.Node) ([]api.Program, []api.Diag))(control.Build)},
		{"control.Valid", (func(p api.Program) bool)(control.Valid)},
		{"interval.Valid", (func(s api.Span) bool)(interval.Valid)},
		{"interval.Add", (func(a, b api.Span) (api.Span, api.Errno))(interval.Add)},
		{"interval.Sub", (func(a, b api.Span) (api.Span, api.Errno))(interval.Sub)},
		{"interval.Mul", (func(a, b api.Span) (api.Span, api.Errno))(interval.Mul)},
		{"interval.Div", (func(a, b api.Span) (api.Span, api.Errno))(interval.Div)},
		{"interval.Up", (func(a, b api.Span) (api.Span, api.Errno))(interval.Up)},
		{"interval.Min", (func(a, b api.Span) (api.Span, api.Errno))(interval.Min)},
		{"interval.Max", (func(a, b api.Span) (api.Span, api.Errno))(interval.Max)},
		{"interval.Join", (func(a, b api.Span) (api.Span, api.Errno))(interval.Join)},
		{"ranges.Eval", (func(vars []api.Span, in [api.Inputs]api.Span, e api.Expr) (api.Span, api.Errno))(ranges.Eval)},
		{"ranges.Flaws", (func(p api.Program) ([]api.Flaw, api.Errno))(ranges.Flaws)},
		{"meaning.Start", (func(p api.Program) ([]int, api.Errno))(meaning.Start)},
		{"meaning.Eval", (func(state []int, in [api.Inputs]int, e api.Expr) (int, api.Errno))(meaning.Eval)},
		{"meaning.Run", (func(p api.Program, state []int, c api.Call) ([]int, api.Errno))(meaning.Run)},
		{"code.Compile", (func(p api.Program) (api.Code, api.Errno))(code.Compile)},
		{"code.Verify", (func(c api.Code, vars int) bool)(code.Verify)},
		{"machine.Run", (func(vars []api.Var, code api.Code, state []int, c api.Call) ([]int, api.Errno))(machine.Run)},
		{"machine.Steps", (func(vars []api.Var, code api.Code, state []int, c api.Call) (int, api.Errno))(machine.Steps)},
		{"refuse.Find", (func(p api.Program, calls []api.Call, depth int) ([]int, api.Errno, bool, api.Errno))(refuse.Find)},
		{"ratio.Valid", (func(a api.Ratio) bool)(ratio.Valid)},
		{"ratio.New", (func(num, den int) (api.Ratio, api.Errno))(ratio.New)},
		{"ratio.Add", (func(a, b api.Ratio) (api.Ratio, api.Errno))(ratio.Add)},
		{"ratio.Sub", (func(a, b api.Ratio) (api.Ratio, api.Errno))(ratio.Sub)},
		{"ratio.Mul", (func(a, b api.Ratio) (api.Ratio, api.Errno))(ratio.Mul)},
		{"ratio.Div", (func(a, b api.Ratio) (api.Ratio, api.Errno))(ratio.Div)},
		{"ratio.Cmp", (func(a, b api.Ratio) (int, api.Errno))(ratio.Cmp)},
		{"maxmin.Valid", (func(n api.Net) bool)(maxmin.Valid)},
		{"maxmin.Share", (func(n api.Net) ([]api.Ratio, api.Errno))(maxmin.Share)},
		{"maxmin.Check", (func(n api.Net, x []api.Ratio) bool)(maxmin.Check)},
		{"prices.Valid", (func(m api.Multi) bool)(prices.Valid)},
		{"prices.Gap", (func(m api.Multi, rates [][]int, prices []int) (int, api.Errno))(prices.Gap)},
		{"prices.Check", (func(m api.Multi, c api.Cert) bool)(prices.Check)},
		{"fair.Solve", (func(n api.Net, rounds int) (api.Cert, api.Errno))(fair.Solve)},
		{"multi.Best", (func(m api.Multi, prices []int, flow int) (int, int, api.Errno))(multi.Best)},
		{"multi.Solve", (func(m api.Multi, rounds int) (api.Cert, api.Errno))(multi.Solve)},
		{"random.Next", (func(seed uint64) (uint64, uint64))(random.Next)},
		{"random.Below", (func(seed uint64, n int) (int, uint64, api.Errno))(random.Below)},
		{"tail.Valid", (func(q api.Queue) bool)(tail.Valid)},
		{"tail.Put", (func(q api.Queue, p api.Packet, now int) (api.Queue, []api.Packet, api.Errno))(tail.Put)},
		{"tail.Take", (func(q api.Queue, now int) (api.Queue, api.Packet, bool, []api.Packet, api.Errno))(tail.Take)},
		{"early.Valid", (func(q api.Queue) bool)(early.Valid)},
		{"early.Put", (func(q api.Queue, p api.Packet, now int) (api.Queue, []api.Packet, api.Errno))(early.Put)},
		{"early.Take", (func(q api.Queue, now int) (api.Queue, api.Packet, bool, []api.Packet, api.Errno))(early.Take)},
		{"sojourn.Valid", (func(q api.Queue) bool)(sojourn.Valid)},
		{"sojourn.Put", (func(q api.Queue, p api.Packet, now int) (api.Queue, []api.Packet, api.Errno))(sojourn.Put)},
		{"sojourn.Take", (func(q api.Queue, now int) (api.Queue, api.Packet, bool, []api.Packet, api.Errno))(sojourn.Take)},
		{"integral.Valid", (func(q api.Queue) bool)(integral.Valid)},
		{"integral.Put", (func(q api.Queue, p api.Packet, now int) (api.Queue, []api.Packet, api.Errno))(integral.Put)},
		{"integral.Take", (func(q api.Queue, now int) (api.Queue, api.Packet, bool, []api.Packet, api.Errno))(integral.Take)},
		{"deficit.Valid", (func(q api.Queue) bool)(deficit.Valid)},
		{"deficit.Put", (func(q api.Queue, p api.Packet, now int) (api.Queue, []api.Packet, api.Errno))(deficit.Put)},
		{"deficit.Take", (func(q api.Queue, now int) (api.Queue, api.Packet, bool, []api.Packet, api.Errno))(deficit.Take)},
		{"dual.Valid", (func(q api.Queue) bool)(dual.Valid)},
		{"dual.Put", (func(q api.Queue, p api.Packet, now int) (api.Queue, []api.Packet, api.Errno))(dual.Put)},
		{"dual.Take", (func(q api.Queue, now int) (api.Queue, api.Packet, bool, []api.Packet, api.Errno))(dual.Take)},
		{"queue.New", (func(p api.Policy, room int) (api.Queue, api.Errno))(queue.New)},
		{"queue.Size", (func(q api.Queue) int)(queue.Size)},
		{"queue.Valid", (func(q api.Queue) bool)(queue.Valid)},
		{"queue.Put", (func(q api.Queue, p api.Packet, now int) (api.Queue, []api.Packet, api.Errno))(queue.Put)},
		{"queue.Take", (func(q api.Queue, now int) (api.Queue, api.Packet, bool, []api.Packet, api.Errno))(queue.Take)},
		{"agenda.Valid", (func(a api.Agenda) bool)(agenda.Valid)},
		{"agenda.Add", (func(a api.Agenda, x api.Item) (api.Agenda, api.Errno))(agenda.Add)},
		{"agenda.Take", (func(a api.Agenda) (api.Agenda, api.Item, bool))(agenda.Take)},
		{"agenda.Drop", (func(a api.Agenda, kind, x, y int) (api.Agenda, api.Errno))(agenda.Drop)},
		{"link.New", (func(rate, delay int, q api.Queue) (api.Link, api.Errno))(link.New)},
		{"link.Valid", (func(l api.Link) bool)(link.Valid)},
		{"link.Arrive", (func(l api.Link, p api.Packet, now int) (api.Link, []api.Packet, api.Errno))(link.Arrive)},
		{"link.Done", (func(l api.Link, now int) (api.Link, api.Packet, []api.Packet, api.Errno))(link.Done)},
		{"link.Set", (func(l api.Link, rate int) (api.Link, api.Errno))(link.Set)},
		{"route.Check", (func(links int, paths []api.Path) api.Errno)(route.Check)},
		{"route.Next", (func(p api.Path, hop int) (int, bool))(route.Next)},
		{"route.Through", (func(paths []api.Path, link int) []int)(route.Through)},
		{"route.Trip", (func(links []api.Link, p api.Path, size int) (int, api.Errno))(route.Trip)},
		{"pacer.Valid", (func(p api.Pacer) bool)(pacer.Valid)},
		{"pacer.Ready", (func(p api.Pacer, now int) bool)(pacer.Ready)},
		{"pacer.Send", (func(p api.Pacer, now, size, rate int) (api.Pacer, api.Errno))(pacer.Send)},
		{"sender.New", (func(p api.Program) (api.Sender, api.Errno))(sender.New)},
		{"sender.Valid", (func(p api.Program, s api.Sender) bool)(sender.Valid)},
		{"sender.Can", (func(p api.Program, s api.Sender, now int) bool)(sender.Can)},
		{"sender.Send", (func(p api.Program, s api.Sender, data, size, now int) (api.Sender, int, api.Errno))(sender.Send)},
		{"sender.Heard", (func(p api.Program, s api.Sender, k api.Ack, size, total, now int) (api.Sender, []int, api.Errno))(sender.Heard)},
		{"sender.Expired", (func(p api.Program, s api.Sender, size, total, now int) (api.Sender, []int, api.Errno))(sender.Expired)},
		{"receiver.Valid", (func(r api.Receiver, window int) bool)(receiver.Valid)},
		{"receiver.Receive", (func(r api.Receiver, window int, p api.Packet) (api.Receiver, api.Ack, bool, api.Errno))(receiver.Receive)},
		{"bundle.Total", (func(p api.Program, f api.Flow) (int, api.Errno))(bundle.Total)},
		{"bundle.Pick", (func(p api.Program, f api.Flow, up []bool, now int) (int, int, bool))(bundle.Pick)},
		{"bundle.Wake", (func(p api.Program, f api.Flow, up []bool, now int) (int, bool))(bundle.Wake)},
		{"world.New", (func(links []api.Link, paths []api.Path, flows []api.Flow, programs []api.Program) (api.World, api.Errno))(world.New)},
		{"world.Valid", (func(w api.World) bool)(world.Valid)},
		{"world.Plan", (func(w api.World, at int, c api.Change) (api.World, api.Errno))(world.Plan)},
		{"world.Step", (func(w api.World) (api.World, []api.Record, bool, api.Errno))(world.Step)},
		{"world.Run", (func(w api.World, until int) (api.World, []api.Record, api.Errno))(world.Run)},
		{"ledger.Digest", (func(d uint64, r api.Record) uint64)(ledger.Digest)},
		{"ledger.Counts", (func(l []api.Record) (int, int, int))(ledger.Counts)},
		{"ledger.Inside", (func(w api.World) int)(ledger.Inside)},
		{"ledger.Check", (func(from, to api.World, l []api.Record) bool)(ledger.Check)},
		{"cut.Encode", (func(w api.World) ([]byte, api.Errno))(cut.Encode)},
		{"cut.Decode", (func(b []byte) (api.World, api.Errno))(cut.Decode)},
		{"cut.Run", (func(w api.World, until int) (api.World, api.Segment, api.Errno))(cut.Run)},
		{"cut.Join", (func(l []api.Segment) (api.Segment, api.Errno))(cut.Join)},
		{"disk.New", (func(block, blocks int) (api.Disk, api.Errno))(disk.New)},
		{"disk.Valid", (func(d api.Disk) bool)(disk.Valid)},
		{"disk.Write", (func(d api.Disk, block int, data []byte) (api.Disk, api.Errno))(disk.Write)},
		{"disk.Sync", (func(d api.Disk) (api.Disk, api.Errno))(disk.Sync)},
		{"disk.Crash", (func(d api.Disk, keep []bool, torn, bytes int) (api.Disk, api.Errno))(disk.Crash)},
		{"disk.Read", (func(d api.Disk, block int) ([]byte, api.Errno))(disk.Read)},
		{"keep.Format", (func(block, blocks int) (api.Disk, api.Errno))(keep.Format)},
		{"keep.Save", (func(d api.Disk, number int, data []byte) ([]api.Disk, api.Errno))(keep.Save)},
		{"keep.Load", (func(d api.Disk) (int, []byte, api.Errno))(keep.Load)},
		{"workers.Assign", (func(from, to, parts, workers int) ([]api.Task, api.Errno))(workers.Assign)},
		{"workers.Merge", (func(tasks []api.Task, l []api.Segment) (api.Segment, api.Errno))(workers.Merge)},
		{"plot.Valid", (func(b api.Budget) bool)(plot.Valid)},
		{"plot.Fits", (func(b api.Budget, p []int) bool)(plot.Fits)},
		{"plot.Choices", (func(b api.Budget, begin []int) []int)(plot.Choices)},
		{"plot.Play", (func(w api.World, b api.Budget, p []int) (api.World, api.Errno))(plot.Play)},
		{"score.Score", (func(kind int, w api.World) (int, api.Errno))(score.Score)},
		{"score.Most", (func(kind int, w api.World, b api.Budget) (int, api.Errno))(score.Most)},
		{"worst.Search", (func(w api.World, b api.Budget, kind int) ([]int, int, []api.Branch, api.Errno))(worst.Search)},
		{"worst.Check", (func(w api.World, b api.Budget, kind int, plan []int, value int, tree []api.Branch) bool)(worst.Check)},
		{"settle.Valid", (func(r api.Rounds) bool)(settle.Valid)},
		{"settle.Size", (func(r api.Rounds) (int, api.Errno))(settle.Size)},
		{"settle.Next", (func(r api.Rounds, state int) (int, api.Errno))(settle.Next)},
		{"settle.Prove", (func(r api.Rounds) ([]int, []int, api.Errno))(settle.Prove)},
		{"settle.Check", (func(r api.Rounds, measure []int) bool)(settle.Check)},
		{"tap.Valid", (func(c api.Case) bool)(tap.Valid)},
		{"tap.Clean", (func(c api.Case) (api.Case, api.Errno))(tap.Clean)},
		{"tap.Behind", (func(c api.Case, p api.Policy, times []int) ([]api.Tap, api.Errno))(tap.Behind)},
		{"tap.Fits", (func(c api.Case, p api.Policy, times []int) bool)(tap.Fits)},
		{"verdict.Decide", (func(c api.Case, catalogue []api.Policy) ([]api.Finding, api.Errno))(verdict.Decide)},
		{"verdict.Check", (func(c api.Case, p api.Policy, f api.Finding) bool)(verdict.Check)},
		{"verdict.Same", (func(l []api.Finding) [][2]int)(verdict.Same)},
		{"verdict.Accused", (func(c api.Case, p api.Policy) ([]int, api.Errno))(verdict.Accused)},
		{"shelf.Valid", (func(l []api.Thing) bool)(shelf.Valid)},
		{"shelf.Put", (func(l []api.Thing, name string, kind int, digest uint64) ([]api.Thing, api.Errno))(shelf.Put)},
		{"shelf.Store", (func(l []api.Thing, name string, digest uint64, needs []string) ([]api.Thing, api.Errno))(shelf.Store)},
		{"shelf.Stale", (func(l []api.Thing) ([]string, api.Errno))(shelf.Stale)},
		{"shelf.Sweep", (func(l []api.Thing) ([]api.Thing, api.Errno))(shelf.Sweep)},
		{"desk.Run", (func(source, script string) (string, api.Errno, int))(desk.Run)},
	}
}
