package fair

import "queuelab/api"

// CertOf and NextOf take any weights, so that those are tested, too, that no rounds of a network lead to: all rounds that were looked at have a certificate.

// CertOf returns the certificate of weights, if there is one.
func CertOf(n api.Net, weights []int) (api.Cert, bool) { return newRound(n, weights).cert() }

// NextOf returns the next weights.
func NextOf(n api.Net, weights []int) []int { return newRound(n, weights).next().weights }
