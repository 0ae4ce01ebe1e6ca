package code_test

import (
	"math/big"
	"math/rand"

	"troupe/api"
	"troupe/tree"
)

// A slow writer and reader that follow the chapter's words: the writer asks nothing, the reader calls itself, and builds all that it reads.

// groups are a number's groups.
func groups(n *big.Int) []byte {
	digits := []byte{}
	for left, base := new(big.Int).Set(n), big.NewInt(128); ; {
		group := new(big.Int)
		left.DivMod(left, base, group)
		digits = append(digits, byte(group.Int64()))
		if left.Sign() == 0 {
			break
		}
	}
	for i := range len(digits) - 1 {
		digits[i] += 128
	}
	return digits
}

func slowNumber(n int) []byte { return groups(big.NewInt(int64(n))) }

// slowSigned is 2 v, or -2 v - 1 below 0.
func slowSigned(v int64) []byte {
	twice := new(big.Int).Mul(big.NewInt(v), big.NewInt(2))
	if v < 0 {
		twice.Neg(twice)
		twice.Sub(twice, big.NewInt(1))
	}
	return groups(twice)
}

func slowBytes(s string) []byte { return append(slowNumber(len(s)), s...) }

// slowTerm are the bytes of a term, whether it may be or not.
func slowTerm(t api.Term) []byte {
	b := []byte{byte(t.Kind)}
	switch t.Kind {
	case api.Int, api.Ref, api.Pid:
		b = append(b, slowSigned(t.N)...)
	case api.Atom:
		b = append(b, slowBytes(t.Name)...)
	case api.Bin:
		b = append(b, slowBytes(string(t.Bytes))...)
	case api.Tuple, api.List:
		b = append(b, slowNumber(len(t.Items))...)
		for _, x := range t.Items {
			b = append(b, slowTerm(x)...)
		}
	}
	if t.Kind == api.List && len(t.Rest) == 0 {
		b = append(b, 0)
	} else if t.Kind == api.List {
		b = append(append(b, 1), slowTerm(t.Rest[0])...)
	}
	return b
}

// slowWrite are the bytes of a module, whether it may be written or not.
func slowWrite(m api.Module) []byte {
	b := append([]byte{0x54, 0x52, 0x50, 0x45}, slowBytes(m.Name)...)
	b = append(b, slowNumber(len(m.Lits))...)
	for _, t := range m.Lits {
		b = append(b, slowTerm(t)...)
	}
	b = append(b, slowNumber(len(m.Funcs))...)
	for _, f := range m.Funcs {
		b = append(b, slowBytes(f.Name)...)
		b = append(b, slowNumber(f.Args)...)
		b = append(b, slowNumber(f.Slots)...)
		b = append(b, slowNumber(len(f.Code))...)
		for _, x := range f.Code {
			b = append(b, byte(x.Op))
			for _, v := range []int{x.A, x.B, x.C} {
				b = append(b, slowSigned(int64(v))...)
			}
		}
	}
	return b
}

// slow is the slow reader: what is left to read, where it gave up (-1: nowhere), and Right's chain, if it is for that.
type slow struct {
	b     []byte
	at    int
	place int
	chain error
}

func slowRead(b []byte) (m api.Module, place int, chain error) {
	s := &slow{b: b, place: -1}
	m = s.module()
	if s.place >= 0 {
		return api.Module{}, s.place, s.chain
	}
	return m, -1, nil
}

func (s *slow) over() bool { return s.place >= 0 }

func (s *slow) refuse(place int) {
	if !s.over() {
		s.place = place
	}
}

func (s *slow) byte() byte {
	if s.over() {
		return 0
	}
	if s.at >= len(s.b) {
		s.refuse(len(s.b))
		return 0
	}
	s.at++
	return s.b[s.at-1]
}

// groups reads a number of at most so many groups, at most most.
func (s *slow) groups(count int, most *big.Int) *big.Int {
	from := s.at
	var digits []byte
	for {
		b := s.byte()
		if s.over() {
			return big.NewInt(0)
		}
		digits = append(digits, b%128)
		if b < 128 {
			break
		}
		if len(digits) == count {
			s.refuse(from)
			return big.NewInt(0)
		}
	}
	n := big.NewInt(0)
	for i := len(digits) - 1; i >= 0; i-- {
		n.Mul(n, big.NewInt(128))
		n.Add(n, big.NewInt(int64(digits[i])))
	}
	if len(digits) > 1 && digits[len(digits)-1] == 0 || n.Cmp(most) > 0 {
		s.refuse(from)
		return big.NewInt(0)
	}
	return n
}

func (s *slow) number() int { return int(s.groups(6, big.NewInt(most40)).Int64()) }

// signed reads a signed number from -far to far, or to far - 1 only.
func (s *slow) signed(least, most int64) int64 {
	from := s.at
	beyond := new(big.Int).Exp(big.NewInt(128), big.NewInt(10), nil)
	n := s.groups(10, beyond)
	v, odd := new(big.Int).DivMod(n, big.NewInt(2), new(big.Int))
	if odd.Sign() != 0 {
		v.Neg(v.Add(v, big.NewInt(1)))
	}
	if v.Cmp(big.NewInt(least)) < 0 || v.Cmp(big.NewInt(most)) > 0 {
		s.refuse(from)
		return 0
	}
	return v.Int64()
}

func (s *slow) operand() int { return int(s.signed(-most39, most39)) }

func (s *slow) count() int {
	from := s.at
	n := s.number()
	if !s.over() && n > len(s.b)-s.at {
		s.refuse(from)
	}
	if s.over() {
		return 0
	}
	return n
}

func (s *slow) text() string {
	var text []byte
	for range s.count() {
		text = append(text, s.byte())
	}
	return string(text)
}

func (s *slow) terms(n int) []api.Term {
	var ts []api.Term
	for range n {
		if t := s.term(); !s.over() {
			ts = append(ts, t)
		}
	}
	return ts
}

func (s *slow) term() api.Term {
	from := s.at
	t := api.Term{Kind: int(s.byte())}
	if s.over() {
		return t
	}
	switch t.Kind {
	case api.Int, api.Ref, api.Pid:
		t.N = s.signed(-1<<63, 1<<63-1)
	case api.Atom:
		t.Name = s.text()
	case api.Bin:
		t.Bytes = []byte(s.text())
	case api.Tuple, api.List:
		t.Items = s.terms(s.count())
	case api.Nil:
	default:
		s.refuse(from)
	}
	if t.Kind == api.List {
		at := s.at
		if b := s.byte(); b > 1 {
			s.refuse(at)
		} else {
			t.Rest = s.terms(int(b))
		}
	}
	return t
}

func (s *slow) module() (m api.Module) {
	for i, b := range []byte{0x54, 0x52, 0x50, 0x45} {
		if s.byte() != b {
			s.refuse(i)
		}
	}
	m.Name = s.text()
	for range s.count() {
		from := s.at
		t := s.term()
		if err := tree.Right(t); err != nil && !s.over() {
			s.refuse(from)
			s.chain = err
		}
		m.Lits = append(m.Lits, t)
	}
	for range s.count() {
		f := api.Func{}
		f.Name = s.text()
		f.Args = s.number()
		f.Slots = s.number()
		for range s.count() {
			x := api.Ins{}
			x.Op = int(s.byte())
			x.A = s.operand()
			x.B = s.operand()
			x.C = s.operand()
			f.Code = append(f.Code, x)
		}
		m.Funcs = append(m.Funcs, f)
	}
	if !s.over() && s.at < len(s.b) {
		s.refuse(s.at)
	}
	return m
}

// Modules by chance, the same ones each time.

// near is a number of a size by chance, up to most.
func near(r *rand.Rand, most int64) int64 {
	n := r.Int63() >> r.Intn(63)
	if r.Intn(8) == 0 {
		n = most - int64(r.Intn(2))
	}
	return min(n, most)
}

func either(r *rand.Rand, n int64) int64 {
	if r.Intn(2) == 0 {
		return -n
	}
	return n
}

func randomText(r *rand.Rand, least int) string {
	b := make([]byte, least+r.Intn(4))
	for i := range b {
		b[i] = byte(r.Intn(256))
	}
	return string(b)
}

// randomTerm is a term that may be, of at most some n parts.
func randomTerm(r *rand.Rand, n int) api.Term {
	kinds := 6
	if n > 3 {
		kinds = 10
	}
	switch r.Intn(kinds) {
	case 0:
		return num(either(r, near(r, 1<<63-1)))
	case 1:
		return atom(randomText(r, 1))
	case 2:
		return ref(near(r, most60))
	case 3:
		return pid(near(r, most60))
	case 4:
		return null()
	case 5:
		return bin([]byte(randomText(r, 0))...)
	case 6, 7:
		return tup(randomTerms(r, 0, n)...)
	case 8:
		return list(randomTerms(r, 1, n)...)
	}
	rest := randomTerm(r, n/3)
	if rest.Kind == api.List || rest.Kind == api.Nil {
		rest = tup(rest)
	}
	return open(rest, randomTerms(r, 1, n)...)
}

func randomTerms(r *rand.Rand, least, n int) []api.Term {
	var ts []api.Term
	for range least + r.Intn(4) {
		ts = append(ts, randomTerm(r, n/3))
	}
	return ts
}

// randomModule is a module that may be written.
func randomModule(r *rand.Rand, size int) api.Module {
	m := api.Module{Name: randomText(r, 0)}
	for range r.Intn(size) {
		m.Lits = append(m.Lits, randomTerm(r, 30))
	}
	operand := func() int { return int(either(r, near(r, most39))) }
	for range r.Intn(size) {
		f := api.Func{Name: randomText(r, 0), Args: int(near(r, most40)), Slots: int(near(r, most40))}
		for range r.Intn(4) {
			f.Code = append(f.Code, api.Ins{Op: r.Intn(256), A: operand(), B: operand(), C: operand()})
		}
		m.Funcs = append(m.Funcs, f)
	}
	return m
}

func randomModules(n, size int) []api.Module {
	r := rand.New(rand.NewSource(9))
	var ms []api.Module
	for range n {
		ms = append(ms, randomModule(r, size))
	}
	return ms
}
