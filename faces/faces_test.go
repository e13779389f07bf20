package faces

import (
	"math"
	"math/rand"
	"reflect"
	"testing"
	"time"

	"queuelab/api"
)

// patience is far more than any call needs, so that a slow machine is not taken for a call without an end.
const patience = time.Minute

// P1: every listed function terminates and does not panic; and the rules: it does not modify its arguments, and the results depend only on these.
func TestEveryFunction(t *testing.T) {
	for _, f := range faces() {
		t.Run(f.name, func(t *testing.T) {
			checkFace(t, f)
		})
	}
}

func checkFace(t *testing.T, f face) {
	call := reflect.ValueOf(f.call)
	for seed := range int64(100) {
		given, before := arguments(call.Type(), seed), arguments(call.Type(), seed)
		first := finish(t, call, given)
		if t.Failed() {
			t.Fatalf("seed %d: the call panics, or does not end", seed)
		}
		if !same(given, before) {
			t.Fatalf("seed %d: an argument was modified", seed)
		}
		if again := finish(t, call, before); !same(first, again) {
			t.Fatalf("seed %d: %v, then %v", seed, first, again)
		}
	}
}

// finish calls a function, and gives up on it after some time.
func finish(t *testing.T, call reflect.Value, in []reflect.Value) []reflect.Value {
	type end struct {
		out   []reflect.Value
		panic any
	}
	done := make(chan end, 1)
	go func() {
		var e end
		defer func() {
			e.panic = recover()
			done <- e
		}()
		e.out = call.Call(in)
	}()
	select {
	case e := <-done:
		if e.panic != nil {
			t.Error(e.panic)
		}
		return e.out
	case <-time.After(patience):
		t.Error("no end")
		return nil
	}
}

func same(a, b []reflect.Value) bool {
	for i := range a {
		if !reflect.DeepEqual(a[i].Interface(), b[i].Interface()) {
			return false
		}
	}
	return len(a) == len(b)
}

// arguments returns values for the parameters of a function: the same ones for the same seed, so that a copy is made by making them again.
func arguments(f reflect.Type, seed int64) []reflect.Value {
	r := rand.New(rand.NewSource(seed))
	var in []reflect.Value
	for i := range f.NumIn() {
		in = append(in, anyValue(r, f.In(i), 0))
	}
	return in
}

// anyValue returns any value of a type, mostly one that is not valid.
func anyValue(r *rand.Rand, t reflect.Type, depth int) reflect.Value {
	v := reflect.New(t).Elem()
	switch t.Kind() {
	case reflect.Bool:
		v.SetBool(r.Intn(2) == 0)
	case reflect.Int:
		v.SetInt(int64(anyNumber(r)))
	case reflect.Uint8, reflect.Uint64:
		v.SetUint(r.Uint64() >> r.Intn(64) & (math.MaxUint64 >> (64 - t.Bits())))
	case reflect.String:
		v.SetString(anyText(r))
	case reflect.Struct:
		for i := range t.NumField() {
			v.Field(i).Set(anyValue(r, t.Field(i).Type, depth+1))
		}
	case reflect.Array:
		for i := range t.Len() {
			v.Index(i).Set(anyValue(r, t.Elem(), depth+1))
		}
	case reflect.Slice:
		// Types that contain themselves would not come to an end otherwise.
		if depth < 6 {
			for range r.Intn(4) {
				v.Set(reflect.Append(v, anyValue(r, t.Elem(), depth+1)))
			}
		}
	default:
		panic("no values of the kind " + t.Kind().String())
	}
	return v
}

func anyNumber(r *rand.Rand) int {
	edges := []int{0, 1, -1, math.MinInt, math.MaxInt, math.MaxInt32 + 1, api.MaxValue, api.MaxValue + 1, api.MaxNumber + 1, api.Million, api.MaxTime}
	switch r.Intn(3) {
	case 0:
		return edges[r.Intn(len(edges))]
	case 1:
		return r.Intn(12)
	}
	return int(r.Uint64()) >> r.Intn(64)
}

func anyText(r *rand.Rand) string {
	pieces := []string{"link", "path", "flow", "program", "a", "w_1", "7", "007", "1000000001", "abcdefghijklm", ";", "{", "}", "<", "=", "!", "# x", "\n", " ", "\x00", "\xff", "é"}
	s := ""
	for range r.Intn(30) {
		s += pieces[r.Intn(len(pieces))]
		if r.Intn(2) == 0 {
			s += " "
		}
	}
	return s
}
