package printer

import "queuelab/api"

var (
	policyWords = [...]string{api.PolTail: "tail", api.PolEarly: "early", api.PolSojourn: "sojourn",
		api.PolIntegral: "integral", api.PolDeficit: "deficit", api.PolDual: "dual"}
	unitWords = [...]string{api.UnitNone: "none", api.UnitPackets: "packets", api.UnitBytes: "bytes",
		api.UnitTime: "time", api.UnitRate: "rate"}
	eventWords = [...]string{api.OnAck: "ack", api.OnLoss: "loss", api.OnMark: "mark",
		api.OnTimeout: "timeout", api.OnPath: "path"}
	relationWords = [...]string{api.RelLess: "<", api.RelAtMost: "<=", api.RelMore: ">",
		api.RelAtLeast: ">=", api.RelEqual: "==", api.RelOther: "!="}
	operationWords = [...]string{api.NodeAdd: "+", api.NodeSub: "-", api.NodeMul: "*", api.NodeDiv: "/",
		api.NodeUp: "up", api.NodeMin: "min", api.NodeMax: "max"}
	useWords = [...]string{"window", "pace"}
)
